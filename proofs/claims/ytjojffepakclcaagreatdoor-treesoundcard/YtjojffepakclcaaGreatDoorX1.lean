/- Part of the proof: contracts over the turned program. -/
import Derived.Test.YtjojffepakclcaaGreatDoorX0
set_option linter.unusedVariables false
set_option maxHeartbeats 4000000
open Go.Proofs.Tryz
namespace Go.Proofs.YtjojffepakclcaaGreatDoor
def A8(s:ByteArray)(i:Nat):UInt8:=s.data.toList.getD i 0
def bitOf(s:ByteArray)(n:Nat):Bool:=(A8 s (n / 8)).toNat / 2 ^ (n%8)%2==1
def turnS(s:ByteArray)(n:Nat):ByteArray:=⟨(s.data.toList.set (n / 8) (A8 s (n / 8) ^^^ UInt8.ofNat (2 ^ (n%8)))).toArray⟩
theorem BQ(s:ByteArray)(n:Nat):(turnS s n).size=s.size:=by
 show (s.data.toList.set _ _).toArray.size=s.data.size;simp
theorem OS(a:UInt8)(i j:Nat)(hi:i<8)(hj:j<8):((a ^^^ UInt8.ofNat (2 ^ i)).toNat / 2 ^ j%2==1)=if i=j then !(a.toNat / 2 ^ j%2==1) else (a.toNat / 2 ^ j%2==1):=by
 have e:∀x:Nat,(x / 2 ^ j%2==1)=x.testBit j:=fun x=>by rw[Nat.testBit_eq_decide_div_mod_eq];cases h:(x / 2 ^ j%2==1)<;>simp_all
 have hp:(UInt8.ofNat (2 ^ i)).toNat=2 ^ i:=by
  have:2 ^ i<256:=by
   have:=Nat.pow_lt_pow_right (a:=2) (by omega) hi;simpa using this
  simp[Nat.mod_eq_of_lt this]
 rw[e,e,UInt8.toNat_xor,Nat.testBit_xor,hp,Nat.testBit_two_pow];by_cases h:i=j
 ·simp[h]
 ·simp[h]
theorem Mv(s:ByteArray)(n m:Nat)(hn:n / 8<s.size):bitOf (turnS s n) m=if n=m then !bitOf s m else bitOf s m:=by
 unfold bitOf A8 turnS;have hl:n / 8<s.data.toList.length:=by simpa using hn
 simp only[List.getD_eq_getElem?_getD,List.getElem?_set];by_cases h8:n / 8=m / 8
 ·rw[if_pos h8,if_pos (by omega)];rw[Option.getD_some];have e:s.data.toList[m / 8]?.getD 0=A8 s (m / 8):=by unfold A8;rw[List.getD_eq_getElem?_getD]
  rw[e,OS (A8 s (n / 8)) (n%8) (m%8) (Nat.mod_lt _ (by omega)) (Nat.mod_lt _ (by omega)),h8];by_cases h:n=m
  ·subst h;simp
  ·rw[if_neg h,if_neg (by omega)]
 ·rw[if_neg h8,if_neg (by intro h;exact h8 (by rw[h]))]
def pg0(l:List ByteArray):ByteArray:=l.getD 0 ⟨#[]⟩
def isU(l:List ByteArray)(n:Nat):Bool:=n==0||bitOf (pg0 l) n
def Bk(l:List ByteArray)(z:Int):Bool:=decide (0<z/\z<(l.length:Int))&&isU l z.toNat
def turnL(l:List ByteArray)(n:Nat):List ByteArray:=l.set 0 (turnS (pg0 l) n)
theorem Bs(l:List ByteArray)(n:Nat):(turnL l n).length=l.length:=by simp[turnL]
theorem Fm{l:List ByteArray}{n m:Nat}(h0:0<l.length)(hs:(pg0 l).size=256)(hn:n<2048)(hm:0<m):isU (turnL l n) m=if n=m then !isU l m else isU l m:=by
 have e:pg0 (turnL l n)=turnS (pg0 l) n:=by
  unfold turnL;show (l.set 0 _).getD 0 _=_;rw[List.getD_eq_getElem?_getD,List.getElem?_set];simp[h0]
 unfold isU;rw[e,Mv _ _ _ (by omega)];have hm':(m==0)=false:=by simpa using (by omega:m≠0)
 rw[hm'];simp
def lowest(l:List ByteArray):Nat->Nat->Option Nat
 | 0,_=>none
 | k+1,n=>if isU l n then lowest l k (n+1) else some n
structure Sw where
 base:List ByteArray
 now:List ByteArray
 notes:List (List ByteArray)
 over:Bool
def Sw.read(s:Sw)(z:Int):ByteArray × Int:=if s.over then (⟨#[]⟩,13) else if Bk s.now z then (s.now.getD z.toNat ⟨#[]⟩,0) else (⟨#[]⟩,7)
def Sw.writeE(s:Sw)(z:Int)(x:ByteArray):Int:=if s.over then 13 else if Bk s.now z then (if x.size=256 then 0 else 1) else 7
def Sw.write(s:Sw)(z:Int)(x:ByteArray):Sw:=if s.writeE z x=0 then { s with now:=s.now.set z.toNat x } else s
def Sw.free(s:Sw):Option Nat:=lowest s.now (s.now.length - 1) 1
def Sw.takeE(s:Sw):Int × Int:=if s.over then (0,13) else match s.free with
 | some n=>((n:Int),0)
 | none=>(0,8)
def Sw.take(s:Sw)(Z:ByteArray):Sw:=if s.over then s else match s.free with
 | some n=>{ s with now:=(turnL s.now n).set n Z }
 | none=>s
def Sw.dropE(s:Sw)(z:Int):Int:=if s.over then 13 else if Bk s.now z then 0 else 7
def Sw.drop(s:Sw)(z:Int):Sw:=if s.dropE z=0 then { s with now:=turnL s.now z.toNat } else s
def Sw.usedN(s:Sw):Nat:=if s.over then 0 else ((List.range s.now.length).filter (isU s.now)).length
theorem EP(l:List ByteArray):∀k n m,n<=m->m<n+k->(∀i,n<=i->i<m->isU l i=true)->isU l m=false->lowest l k n=some m:=by
 intro k;induction k with
 | zero=>intro n m h1 h2;omega
 | succ k ih =>
  intro n m h1 h2 h3 h4;unfold lowest;by_cases h:n=m
  ·subst h;rw[h4];rfl
  ·rw[h3 n (Nat.le_refl _) (by omega),if_pos rfl];exact ih (n+1) m (by omega) (by omega) (fun i hi hi'=>h3 i (by omega) hi') h4
theorem Jh(l:List ByteArray):∀k n,(∀i,n<=i->i<n+k->isU l i=true)->lowest l k n=none:=by
 intro k;induction k with
 | zero=>intro n _;rfl
 | succ k ih =>
  intro n h;unfold lowest;rw[h n (Nat.le_refl _) (by omega),if_pos rfl];exact ih (n+1) (fun i hi hi'=>h i (by omega) (by omega))
theorem O3(l:List ByteArray)(n:Nat)(x:ByteArray)(hn:0<n):pg0 (l.set n x)=pg0 l:=by
 unfold pg0;rw[List.getD_eq_getElem?_getD,List.getD_eq_getElem?_getD,List.getElem?_set,if_neg (by omega)]
theorem E3(l:List ByteArray)(n m:Nat)(x:ByteArray)(hn:0<n):isU (l.set n x) m=isU l m:=by
 unfold isU;rw[O3 l n x hn]
theorem Dh{l:List ByteArray}(h0:0<l.length)(hs:∀x∈l,x.size=256):(pg0 l).size=256:=by
 unfold pg0;rw[List.getD_eq_getElem?_getD,List.getElem?_eq_getElem h0];exact hs _ (List.getElem_mem h0)
theorem BO{l:List ByteArray}{n:Nat}{x:ByteArray}(hs:∀y∈l,y.size=256)(hx:x.size=256):∀y∈l.set n x,y.size=256:=fun y hy=>by
 rcases List.mem_or_eq_of_mem_set hy with h|h
 ·exact hs y h
 ·rw[h];exact hx
structure Tk (s:Sw) (n:Nat) (U:Nat->Bool):Prop where
 ov:s.over=false
 len:s.now.length=n
 l0:0<n
 l1:n<=160
 sz:∀x∈s.now,x.size=256
 us:∀i,0<i->i<n->isU s.now i=U i
theorem Tk.turn{s:Sw}{n:Nat}{U:Nat->Bool}(h:Tk s n U)(m:Nat)(hm:0<m)(hmn:m<n):Tk { s with now:=turnL s.now m } n (fun i=>if m=i then !U i else U i):=by
 have h0:0<s.now.length:=by rw[h.len];exact h.l0
 refine⟨h.ov,by rw[<-h.len];exact Bs _ _,h.l0,h.l1,BO h.sz (by rw[BQ];exact Dh h0 h.sz),fun i hi hin=>?_⟩;have:=h.l1;show isU (turnL s.now m) i=_;rw[Fm h0 (Dh h0 h.sz) (by omega) hi,h.us i hi hin]
theorem Tk.put{s:Sw}{n:Nat}{U:Nat->Bool}(h:Tk s n U)(m:Nat)(x:ByteArray)(hm:0<m)(hx:x.size=256):Tk { s with now:=s.now.set m x } n U :=
 ⟨h.ov,by rw[<-h.len];exact List.length_set ..,h.l0,h.l1,BO h.sz hx,fun i hi hin=>by
  show isU (s.now.set m x) i=_
  rw[E3 _ _ _ _ hm]
  exact h.us i hi hin⟩
theorem Tk.congr{s:Sw}{n:Nat}{U V:Nat->Bool}(h:Tk s n U)(hv:∀i,0<i->i<n->U i=V i):Tk s n V:=⟨h.ov,h.len,h.l0,h.l1,h.sz,fun i hi hin=>by rw[h.us i hi hin,hv i hi hin]⟩
theorem Tk.take{s:Sw}{n:Nat}{U:Nat->Bool}(h:Tk s n U)(m:Nat)(Z:ByteArray)(hm:0<m)(hmn:m<n)(hU:U m=false)(hl:∀i,0<i->i<m->U i=true)(hZ:Z.size=256) :
  s.takeE=((m:Int),0)/\Tk (s.take Z) n (fun i=>i==m||U i):=by
 have hf:s.free=some m:=by
  unfold Sw.free;rw[h.len];exact EP _ _ _ _ hm (by omega) (fun i hi him=>by rw[h.us i hi (by omega)];exact hl i hi him) (by rw[h.us m hm hmn];exact hU)
 refine⟨by unfold Sw.takeE;rw[h.ov,hf];rfl,?_⟩;have e:s.take Z={ s with now:=(turnL s.now m).set m Z }:=by unfold Sw.take;rw[h.ov,hf];rfl
 rw[e];refine((h.turn m hm hmn).put m Z hm hZ).congr (fun i hi hin=>?_);by_cases hi':m=i
 ·subst hi';simp[hU]
 ·have:(i==m)=false:=by simpa using fun e=>hi' e.symm
  simp[hi',this]
theorem Tk.drop{s:Sw}{n:Nat}{U:Nat->Bool}(h:Tk s n U)(z:Int)(hz:0<z)(hzn:z<n)(hU:U z.toNat=true):s.dropE z=0/\Tk (s.drop z) n (fun i=>!(i==z.toNat)&&U i):=by
 have ht:Bk s.now z=true:=by
  unfold Bk;rw[h.len,h.us z.toNat (by omega) (by omega),hU];simp[hz,hzn]
 have hE:s.dropE z=0:=by unfold Sw.dropE;rw[h.ov,ht];rfl
 refine⟨hE,?_⟩;have e:s.drop z={ s with now:=turnL s.now z.toNat }:=by unfold Sw.drop;rw[if_pos hE]
 rw[e];refine(h.turn z.toNat (by omega) (by omega)).congr (fun i hi hin=>?_);by_cases hi':z.toNat=i
 ·subst hi';simp[hU]
 ·have:(i==z.toNat)=false:=by simpa using fun e=>hi' e.symm
  simp[hi',this]
structure Sw.From (s t:Sw):Prop where
 base:t.base=s.base
 over:t.over=s.over
 notes:∃m,t.notes=s.notes++m
theorem Sw.From.refl(s:Sw):s.From s:=⟨rfl,rfl,[],by simp⟩
theorem Sw.From.trans{s t u:Sw}(h:s.From t)(h':t.From u):s.From u:=by
 obtain⟨m,hm⟩:=h.notes;obtain⟨m',hm'⟩:=h'.notes;exact⟨h'.base.trans h.base,h'.over.trans h.over,m++m',by rw[hm',hm,List.append_assoc]⟩
theorem Sw.From.now(s:Sw)(l:List ByteArray):s.From { s with now:=l }:=⟨rfl,rfl,[],by simp⟩
theorem Kb(s:Sw)(z:Int)(x:ByteArray):s.From (s.write z x):=by unfold Sw.write;split;exact .now _ _;exact .refl _
theorem LE(s:Sw)(Z:ByteArray):s.From (s.take Z):=by
 unfold Sw.take;split
 ·exact .refl _
 ·split
  ·exact .now _ _
  ·exact .refl _
theorem Lv(s:Sw)(z:Int):s.From (s.drop z):=by unfold Sw.drop;split;exact .now _ _;exact .refl _
def nd0:Nd:=⟨false,[],[],[]⟩
def ndE(S:Sw)(z:Int):Int:=if (S.read z).2=0 then (if (readN (S.read z).1).isSome then 0 else 10) else (S.read z).2
def ndOf(S:Sw)(z:Int):Nd:=if (S.read z).2=0 then (readN (S.read z).1).getD nd0 else nd0
def trE(S:Sw)(k:Nat)(z lv:Int):Int:=if ndE S z=0 then (if 40<lv\/1000<=k then 10 else 0) else ndE S z
def trK(S:Sw)(k:Nat)(z:Int):Nat:=if ndE S z=0 then k+1 else k
def trN(S:Sw)(k:Nat)(z lv:Int):Nd:=if trE S k z lv=0 then ndOf S z else nd0
theorem G8{S:Sw}{k:Nat}{z lv:Int}(h:trE S k z lv=0):lv<=40/\k<1000/\ndE S z=0/\trK S k z=k+1/\trN S k z lv=ndOf S z:=by
 have h':=h;unfold trE at h;by_cases h1:ndE S z=0
 ·rw[if_pos h1]at h;by_cases h2:40<lv\/1000<=k
  ·rw[if_pos h2]at h;cases h
  ·refine⟨by omega,by omega,h1,by unfold trK;rw[if_pos h1],by unfold trN;rw[if_pos h']⟩
 ·rw[if_neg h1]at h;exact absurd h h1
theorem Jt(S:Sw)(k:Nat)(z:Int):trK S k z<=k+1:=by unfold trK;split<;>omega
def inB(key fr up:ByteArray):Bool:=!lessB key fr&&(up.size==0||lessB key up)
structure Sp where
 page:Int
 nd:Nd
 kid:Nat
 was:Nat
def wayG (S : Sw) (key : ByteArray) : Nat → List Sp → Int → Nat → List Sp × Int × Nat
  | 0, acc, z, k => ([], 10, k)
  | f + 1, acc, z, k => if trE S k z (acc.length + 1) = 0 then
      (if (ndOf S z).leaf then (acc ++ [⟨z, ndOf S z, An (ndOf S z).ks key, (ndOf S z).size⟩], 0, k + 1)
       else wayG S key f (acc ++ [⟨z, ndOf S z, An (ndOf S z).ks key, (ndOf S z).size⟩]) ((ndOf S z).kd.getD (An (ndOf S z).ks key) 0) (k + 1))
    else ([], trE S k z (acc.length + 1), trK S k z)
structure Lo where
 k:Nat
 pages:List Int
 pairs:List Pr
 depth:Int
def Lo.meet(L:Lo)(z:Int):Lo:=if L.pages.contains z then L else { L with pages:=L.pages++[z] }
def overK(rec:Int->Lo->Int × Lo)(ks:List ByteArray)(up:ByteArray):List Int->Nat->Lo->Int × Lo
 | [],_,L=>(0,L)
 | d::r,i,L=>if 0<i/\inB (ks.getD (i - 1) ⟨#[]⟩) ⟨#[]⟩ up=false then (0,L) else
   if (rec d L).1=0 then overK rec ks up r (i+1) (rec d L).2 else rec d L
def overG(S:Sw)(fr up:ByteArray):Nat->Int->Int->Lo->Int × Lo
 | 0,z,lv,L=>(10,L)
 | f+1,z,lv,L=>if trE S L.k z lv=0 then
   overK (fun d M=>overG S fr up f d (lv+1) M) (ndOf S z).ks up ((ndOf S z).kd.drop (An (ndOf S z).ks fr)) (An (ndOf S z).ks fr)
    { ({ L with k:=L.k+1 }.meet z)with pairs:=L.pairs++(ndOf S z).ps.filter (fun p=>inB p.k fr up) }
  else (trE S L.k z lv,{ L with k:=trK S L.k z })
def over(S:Sw)(root:Int)(fr up:ByteArray):Int × Lo:=if root=0 then (0,⟨0,[],[],0⟩) else overG S fr up 41 root 1 ⟨0,[],[],0⟩
def leafB(ps:List Pr)(dep lv:Int)(fr up:ByteArray):Bool:=decide (lv=dep)&&(match ps.head?,ps.getLast? with
 | some p,some q=>inB p.k fr up&&inB q.k fr up
 | _,_=>false)
def Bx(rec:Int->ByteArray->ByteArray->Lo->Bool × Lo)(ks:List ByteArray)(fr up:ByteArray):List Int->Nat->Lo->Bool × Lo
 | [],_,L=>(true,L)
 | d::r,i,L=>if (rec d (if 0<i then ks.getD (i - 1) ⟨#[]⟩ else fr) (if i<ks.length then ks.getD i ⟨#[]⟩ else up) L).1
   then Bx rec ks fr up r (i+1) (rec d (if 0<i then ks.getD (i - 1) ⟨#[]⟩ else fr) (if i<ks.length then ks.getD i ⟨#[]⟩ else up) L).2
   else rec d (if 0<i then ks.getD (i - 1) ⟨#[]⟩ else fr) (if i<ks.length then ks.getD i ⟨#[]⟩ else up) L
def AI(S:Sw):Nat->Int->Int->ByteArray->ByteArray->Lo->Bool × Lo
 | 0,z,lv,fr,up,L=>(false,L)
 | f+1,z,lv,fr,up,L=>if trE S L.k z lv=0 then
   (if L.pages.contains z then (false,{ L with k:=L.k+1 }) else
    if (ndOf S z).leaf then
     (leafB (ndOf S z).ps (if L.depth=0 then lv else L.depth) lv fr up,{ L with k:=L.k+1,pages:=L.pages++[z],depth:=if L.depth=0 then lv else L.depth })
    else if (ndOf S z).ks.length=0 then (false,{ L with k:=L.k+1,pages:=L.pages++[z] })
    else Bx (fun d a b M=>AI S f d (lv+1) a b M) (ndOf S z).ks fr up (ndOf S z).kd 0 { L with k:=L.k+1,pages:=L.pages++[z] })
  else (false,{ L with k:=trK S L.k z })
def sound(S:Sw)(root:Int):Bool × Lo:=if root=0 then (true,⟨0,[],[],0⟩) else AI S 41 root 1 ⟨#[]⟩ ⟨#[]⟩ ⟨0,[],[],0⟩
def CC(S:Sw)(root:Int):Int × Int × Bool:=if (sound S root).1 then ((sound S root).2.pages.length,(sound S root).2.depth,true) else (0,0,false)
def scanE(S:Sw)(root:Int)(fr up:ByteArray):Int:=(over S root fr up).1
def scanL(S:Sw)(root:Int)(fr up:ByteArray):List Pr:=if scanE S root fr up=0 then (over S root fr up).2.pairs else []
theorem Ed{l m:List ByteArray}(h:ordN l=true)(hs:m.Sublist l):ordN m=true:=by
 unfold ordN;rw[Bool.and_eq_true];refine⟨List.all_eq_true.2 (fun k hk=>?_),BX _ ((BP _ (Fw h)).sublist hs)⟩;have:=Be h k (hs.subset hk);exact decide_eq_true this
theorem Cd{l:List Pr}(h1:∀p∈l,p.v.size<=40)(h2:ordN (l.map Pr.k)=true):(⟨true,l,[],[]⟩:Nd).right=true:=by
 unfold Nd.right;rw[if_pos rfl];simp only[Bool.and_eq_true,List.all_eq_true,decide_eq_true_eq];exact⟨h1,⟨rfl,rfl⟩,h2⟩
theorem BR{l:List ByteArray}{d:List Int}(h1:∀z∈d,1<=z/\z<=65535)(h2:d.length=l.length+1)(h3:ordN l=true):(⟨false,[],l,d⟩:Nd).right=true:=by
 unfold Nd.right;simp only[Bool.false_eq_true,if_false,Bool.and_eq_true,List.all_eq_true,decide_eq_true_eq,okD];exact⟨h1,⟨rfl,h2⟩,h3⟩
theorem GX{n:Nd}(hl:n.leaf=true)(h2:2<=n.ps.length):1<=n.at_/\n.at_<n.ps.length/\(n.at_+1=n.ps.length\/n.size - 2<=2*((n.ps.take n.at_).map Pr.size).sum)/\(n.at_=1\/2*((n.ps.take (n.at_ - 1)).map Pr.size).sum<n.size - 2):=by
 obtain⟨j,e,h3,h4,h5,h6⟩:=EC (fun j=>(n.ps.getD j ⟨⟨#[]⟩,⟨#[]⟩⟩).size) (n.size - 2) (n.ps.length - 1) n.ps.length 1 (n.ps.getD 0 ⟨⟨#[]⟩,⟨#[]⟩⟩).size (by simp[sumTo]) (Nat.le_refl _) (by omega) (.inl rfl);have ha:n.at_=j:=by unfold Nd.at_;rw[if_pos hl];exact e
 rw[ha];rw[CL Pr.size _ n.ps j (by omega)]at h5;rw[CL Pr.size _ n.ps (j - 1) (by omega)]at h6;exact⟨by omega,by omega,by omega,h6⟩
theorem FX{n:Nd}(hl:n.leaf=false)(h3:3<=n.ks.length):1<=n.at_/\n.at_+1<n.ks.length/\(n.at_+2=n.ks.length\/n.size - 4<=2*((n.ks.take n.at_).map kSize).sum)/\(n.at_=1\/2*((n.ks.take (n.at_ - 1)).map kSize).sum<n.size - 4):=by
 obtain⟨j,e,h3',h4,h5,h6⟩:=EC (fun j=>kSize (n.ks.getD j ⟨#[]⟩)) (n.size - 4) (n.ks.length - 2) n.ks.length 1 (kSize (n.ks.getD 0 ⟨#[]⟩)) (by simp[sumTo]) (Nat.le_refl _) (by omega) (.inl rfl);have ha:n.at_=j:=by unfold Nd.at_;rw[hl];exact e
 rw[ha];rw[CL kSize _ n.ks j (by omega)]at h5;rw[CL kSize _ n.ks (j - 1) (by omega)]at h6;exact⟨by omega,by omega,by omega,h6⟩
theorem Dl{α:Type}(f:α->Nat)(l:List α)(i M:Nat)(hi:i<l.length)(hM:∀x∈l,f x<=M):((l.take (i+1)).map f).sum<=((l.take i).map f).sum+M:=by
 rw[List.take_succ_eq_append_getElem hi,List.map_append,List.sum_append];have:=hM _ (List.getElem_mem hi);simp;exact this
theorem At{α:Type}(f:α->Nat)(l:List α)(i:Nat):((l.take i).map f).sum+((l.drop i).map f).sum=(l.map f).sum:=by
 rw[<-List.sum_append,<-List.map_append,List.take_append_drop]
theorem EY{α:Type}(f:α->Nat)(l:List α)(M:Nat)(h:l.length<=1)(hM:∀x∈l,f x<=M):(l.map f).sum<=M:=by
 match l,h with
 | [],_=>exact Nat.zero_le _
 | [x],_=>simp;exact hM x List.mem_cons_self
theorem JQ{n:Nd}(hr:n.right=true)(hl:n.leaf=true)(h2:2<=n.ps.length):n.fst.join n.snd n.mid=n/\n.fst.right=true/\n.snd.right=true/\1<=n.mid.size/\(∀p∈n.fst.ps,lessB p.k n.mid=true)/\(∀p∈n.snd.ps,lessB p.k n.mid=false)/\(n.size<=330->n.fst.size<=256/\n.snd.size<=256):=by
 obtain⟨a1,a2,a3,a4⟩:=GX hl h2;obtain⟨r1,r2,r3,r4⟩:=AR hr hl;have hps:=BY hr hl;have hasc:=LR hr;have hp:n.parts=true:=by unfold Nd.parts;rw[if_pos hl];exact decide_eq_true h2
 have ef:n.fst=⟨true,n.ps.take n.at_,[],[]⟩:=by unfold Nd.fst;rw[if_pos hp,if_pos hl]
 have es:n.snd=⟨true,n.ps.drop n.at_,[],[]⟩:=by unfold Nd.snd;rw[if_pos hp,if_pos hl]
 have em:n.mid=n.ps[n.at_].k:=by
  unfold Nd.mid;rw[if_pos hp,if_pos hl,List.getD_eq_getElem?_getD,List.getElem?_eq_getElem a2];rfl
 have hd:n.ps.drop n.at_=n.ps[n.at_]::n.ps.drop (n.at_+1):=List.drop_eq_getElem_cons a2;have hap:=hasc;unfold Asc at hap;rw[<-List.take_append_drop n.at_ n.ps]at hap;obtain⟨b1,b2,b3⟩:=List.pairwise_append.1 hap;refine⟨?_,?_,?_,?_,?_,?_,fun hs=>?_⟩
 ·rw[ef,es];unfold Nd.join;rw[if_pos rfl];show (⟨true,n.ps.take n.at_++n.ps.drop n.at_,[],[]⟩:Nd)=n;rw[List.take_append_drop];cases n
  dsimp only at *;subst r2 r3 hl;rfl
 ·rw[ef];exact Cd (fun p hp=>r1 p (List.mem_of_mem_take hp)) (Ed r4 ((List.take_sublist _ _).map _))
 ·rw[es];exact Cd (fun p hp=>r1 p (List.mem_of_mem_drop hp)) (Ed r4 ((List.drop_sublist _ _).map _))
 ·rw[em];exact(hps _ (List.getElem_mem a2)).1.1
 ·rw[ef,em];intro p hp;exact b3 p hp _ (by rw[hd];exact List.mem_cons_self)
 ·rw[es,em];intro p hp;rw[hd]at b2;have hp':p∈n.ps.drop n.at_:=hp;rw[hd]at hp';rcases List.mem_cons.1 hp' with e|e
  ·rw[e];exact Az _
  ·exact AW ((List.pairwise_cons.1 b2).1 p e)
 ·have hn:n.size=2+(n.ps.map Pr.size).sum:=by unfold Nd.size;rw[if_pos hl]
  have hM:∀p∈n.ps,p.size<=74:=fun p hp=>by have:=hps p hp;unfold Pr.size;omega
  have hsum:=At Pr.size n.ps n.at_;have e1:n.fst.size=2+((n.ps.take n.at_).map Pr.size).sum:=by rw[ef];rfl
  have e2:n.snd.size=2+((n.ps.drop n.at_).map Pr.size).sum:=by rw[es];rfl
  rw[e1,e2];constructor
  ·have hst:=Dl Pr.size n.ps (n.at_ - 1) 74 (by omega) hM;rw[Nat.sub_add_cancel a1]at hst;rcases a4 with e|e
   ·have:=EY Pr.size (n.ps.take n.at_) 74 (by rw[List.length_take];omega) (fun p hp=>hM p (List.mem_of_mem_take hp));omega
   ·omega
  ·rcases a3 with e|e
   ·have:=EY Pr.size (n.ps.drop n.at_) 74 (by rw[List.length_drop];omega) (fun p hp=>hM p (List.mem_of_mem_drop hp));omega
   ·omega
theorem Ii{n:Nd}(hr:n.right=true)(hl:n.leaf=false)(h3:3<=n.ks.length):n.fst.join n.snd n.mid=n/\n.fst.right=true/\n.snd.right=true/\1<=n.mid.size/\n.fst.ps=[]/\n.snd.ps=[]/\(n.size<=330->n.fst.size<=256/\n.snd.size<=256):=by
 obtain⟨a1,a2,a3,a4⟩:=FX hl h3;obtain⟨r1,r2,r3,r4⟩:=Aw hr hl;have hks:=Be r4;have ai:n.at_<n.ks.length:=by omega
 have hp:n.parts=true:=by unfold Nd.parts;rw[hl];exact decide_eq_true ⟨h3,r3⟩
 have ef:n.fst=⟨false,[],n.ks.take n.at_,n.kd.take (n.at_+1)⟩:=by unfold Nd.fst;rw[if_pos hp,hl];rfl
 have es:n.snd=⟨false,[],n.ks.drop (n.at_+1),n.kd.drop (n.at_+1)⟩:=by unfold Nd.snd;rw[if_pos hp,hl];rfl
 have em:n.mid=n.ks[n.at_]:=by
  unfold Nd.mid;rw[if_pos hp,hl];show n.ks.getD n.at_ ⟨#[]⟩=_;rw[List.getD_eq_getElem?_getD,List.getElem?_eq_getElem ai];rfl
 have hd:n.ks.drop n.at_=n.ks[n.at_]::n.ks.drop (n.at_+1):=List.drop_eq_getElem_cons ai;refine⟨?_,?_,?_,?_,by rw[ef],by rw[es],fun hs=>?_⟩
 ·rw[ef,es,em];unfold Nd.join;show (⟨false,[],n.ks.take n.at_++[n.ks[n.at_]]++n.ks.drop (n.at_+1),n.kd.take (n.at_+1)++n.kd.drop (n.at_+1)⟩:Nd)=n;rw[List.take_append_drop,List.append_assoc];show (⟨false,[],n.ks.take n.at_++(n.ks[n.at_]::n.ks.drop (n.at_+1)),n.kd⟩:Nd)=n;rw[<-hd,List.take_append_drop];cases n
  dsimp only at *;subst r2 hl;rfl
 ·rw[ef];exact BR (fun z hz=>r1 z (List.mem_of_mem_take hz)) (by rw[List.length_take,List.length_take];omega) (Ed r4 (List.take_sublist _ _))
 ·rw[es];exact BR (fun z hz=>r1 z (List.mem_of_mem_drop hz)) (by rw[List.length_drop,List.length_drop];omega) (Ed r4 (List.drop_sublist _ _))
 ·rw[em];exact(hks _ (List.getElem_mem ai)).1
 ·have hn:n.size=4+(n.ks.map kSize).sum:=by unfold Nd.size;rw[hl];rfl
  have hM:∀k∈n.ks,kSize k<=35:=fun k hk=>by have:=hks k hk;unfold kSize;omega
  have hsum:=At kSize n.ks n.at_;have e1:n.fst.size=4+((n.ks.take n.at_).map kSize).sum:=by rw[ef];rfl
  have e2:n.snd.size=4+((n.ks.drop (n.at_+1)).map kSize).sum:=by rw[es];rfl
  have e3:((n.ks.drop n.at_).map kSize).sum=kSize n.ks[n.at_]+((n.ks.drop (n.at_+1)).map kSize).sum:=by rw[hd,List.map_cons,List.sum_cons]
  rw[e1,e2];constructor
  ·have hst:=Dl kSize n.ks (n.at_ - 1) 35 (by omega) hM;rw[Nat.sub_add_cancel a1]at hst;rcases a4 with e|e
   ·have:=EY kSize (n.ks.take n.at_) 35 (by rw[List.length_take];omega) (fun p hp=>hM p (List.mem_of_mem_take hp));omega
   ·omega
  ·rcases a3 with e|e
   ·have:=EY kSize (n.ks.drop (n.at_+1)) 35 (by rw[List.length_drop];omega) (fun p hp=>hM p (List.mem_of_mem_drop hp));omega
   ·omega
theorem DD{n:Nd}(h:n.parts=false):n.fst=n/\n.snd=⟨false,[],[],[]⟩/\n.mid=⟨#[]⟩:=by
 unfold Nd.fst Nd.snd Nd.mid;rw[h];exact⟨rfl,rfl,rfl⟩
def Fo:Nat->Type
 | 0=>List Pr
 | d+1=>List ByteArray × List (Int × Fo d)
def fnd:(d:Nat)->Fo d->Nd
 | 0,ps=>⟨true,ps,[],[]⟩
 | _+1,f=>⟨false,[],f.1,f.2.map Prod.fst⟩
def fpgs:(d:Nat)->Fo d->List Int
 | 0,_=>[]
 | d+1,f=>f.2.flatMap (fun t=>t.1::fpgs d t.2)
def fprs:(d:Nat)->Fo d->List Pr
 | 0,ps=>ps
 | d+1,f=>f.2.flatMap (fun t=>fprs d t.2)
def fne:(d:Nat)->Fo d->Prop
 | 0,ps=>ps≠([]:List Pr)
 | _+1,f=>f.1≠[]
def AD{α:Type}(P:α->ByteArray->ByteArray->Prop):List ByteArray->List α->ByteArray->ByteArray->Prop
 | [],[t],lo,hi=>P t lo hi
 | k::ks,t::ts,lo,hi=>P t lo k/\AD P ks ts k hi
 | _,_,_,_=>False
def Bw(ps:List Pr)(lo hi:ByteArray):Prop:=(∀p∈ps,okKey p.k=true/\p.v.size<=40/\inB p.k lo hi=true)/\Asc ps
def fOk:(d:Nat)->Fo d->ByteArray->ByteArray->Prop
 | 0,ps,lo,hi=>Bw ps lo hi
 | d+1,f,lo,hi=>(∀k∈f.1,okKey k=true)/\AD (fun (t:Int × Fo d) a b=>(1<=t.1/\t.1<=65535)/\fne d t.2/\(fnd d t.2).size<=256/\fOk d t.2 a b) f.1 f.2 lo hi
def tOk(d:Nat)(t:Int × Fo d)(a b:ByteArray):Prop:=(1<=t.1/\t.1<=65535)/\fne d t.2/\(fnd d t.2).size<=256/\fOk d t.2 a b
def fIn(V:Int->Option Nd):(d:Nat)->Fo d->Prop
 | 0,_=>True
 | d+1,f=>∀t∈f.2,V t.1=some (fnd d t.2)/\fIn V d t.2
def tIn(V:Int->Option Nd)(d:Nat)(t:Int × Fo d):Prop:=V t.1=some (fnd d t.2)/\fIn V d t.2
theorem Bh{V V':Int->Option Nd}:∀(d:Nat) (f:Fo d),fIn V d f->(∀z∈fpgs d f,V' z=V z)->fIn V' d f
 | 0,f,_,_=>trivial
 | d+1,f,h,hv=>fun t ht=>⟨by rw[hv t.1 (List.mem_flatMap.2 ⟨t,ht,List.mem_cons_self⟩)];exact(h t ht).1,Bh d t.2 (h t ht).2 (fun z hz=>hv z (List.mem_flatMap.2 ⟨t,ht,List.mem_cons_of_mem _ hz⟩))⟩
theorem BN{V V':Int->Option Nd}(d:Nat)(t:Int × Fo d)(h:tIn V d t)(hv:∀z∈t.1::fpgs d t.2,V' z=V z):tIn V' d t:=⟨by rw[hv t.1 List.mem_cons_self];exact h.1,Bh d t.2 h.2 (fun z hz=>hv z (List.mem_cons_of_mem _ hz))⟩
theorem IJ{V:Int->Option Nd}:∀(d:Nat) (f:Fo d),fIn V d f->∀z∈fpgs d f,∃n,V z=some n/\∀c∈n.kd,c∈fpgs d f
 | 0,f,_,z,hz=>by cases hz
 | d+1,f,h,z,hz=>by
  obtain⟨t,ht,hz⟩:=List.mem_flatMap.1 hz
  have hsub:∀c∈t.1::fpgs d t.2,c∈fpgs (d+1) f:=fun c hc=>List.mem_flatMap.2 ⟨t,ht,hc⟩
  rcases List.mem_cons.1 hz with e|e
  ·refine⟨fnd d t.2,by rw[e];exact(h t ht).1,fun c hc=>?_⟩
   cases d with
   | zero=>cases hc
   | succ d =>
    obtain⟨s,hs,rfl⟩:=List.mem_map.1 hc
    exact hsub _ (List.mem_cons_of_mem _ (List.mem_flatMap.2 ⟨s,hs,List.mem_cons_self⟩))
  ·obtain⟨n,hn,hk⟩:=IJ d t.2 (h t ht).2 z e
   exact⟨n,hn,fun c hc=>hsub c (List.mem_cons_of_mem _ (hk c hc))⟩
def leU(b b':ByteArray):Prop:=b'.size=0\/(b.size≠0/\lessB b' b=false)
theorem DT(b:ByteArray):leU b b:=by
 by_cases h:b.size=0
 ·exact .inl h
 ·exact .inr ⟨h,Az b⟩
theorem CN{a b c:ByteArray}(h:lessB a b=true)(h':lessB c b=false):lessB a c=true:=by
 cases e:lessB a c with
 | true=>rfl
 | false =>
  cases e':lessB c a with
  | true=>rw[AP e' h]at h';cases h'
  | false=>rw[Br e e']at h;rw[h]at h';cases h'
theorem OU{a b c:ByteArray}(h:lessB b a=false)(h':lessB b c=true):lessB a c=true:=by
 cases e:lessB a c with
 | true=>rfl
 | false =>
  cases e':lessB a b with
  | true=>rw[AP e' h']at e;cases e
  | false=>rw[Br e' h]at e;rw[h']at e;cases e
theorem Ps{a b c:ByteArray}(h:lessB b a=false)(h':lessB c b=false):lessB c a=false:=by
 cases e:lessB c a with
 | false=>rfl
 | true=>rw[CN e h]at h';cases h'
theorem Ay{k a b:ByteArray}:inB k a b=true↔lessB k a=false/\(b.size=0\/lessB k b=true):=by
 unfold inB;simp
theorem CP{k a b a' b':ByteArray}(h:inB k a b=true)(ha:lessB a a'=false)(hb:leU b b'):inB k a' b'=true:=by
 rw[Ay]at h |-;refine⟨Ps ha h.1,?_⟩;rcases hb with hb|⟨h1,h2⟩
 ·exact .inl hb
 ·rcases h.2 with e|e
  ·exact absurd e h1
  ·exact .inr (CN e h2)
theorem Gi{α:Type}{P:α->ByteArray->ByteArray->Prop}(hP:∀t a b a' b',P t a b->lessB a a'=false->leU b b'->P t a' b'):∀(ks:List ByteArray) (ts:List α) (lo hi lo' hi':ByteArray),AD P ks ts lo hi->lessB lo lo'=false->leU hi hi'->AD P ks ts lo' hi'
 | [],[t],lo,hi,lo',hi',h,h1,h2=>hP t lo hi lo' hi' h h1 h2
 | k::ks,t::ts,lo,hi,lo',hi',h,h1,h2=>⟨hP t lo k lo' k h.1 h1 (DT k),Gi hP ks ts k hi k hi' h.2 (Az k) h2⟩
 | [],[],_,_,_,_,h,_,_=>h.elim
 | _::_,[],_,_,_,_,h,_,_=>h.elim
 | [],_::_::_,_,_,_,_,h,_,_=>h.elim
theorem Iz:∀(d:Nat) (f:Fo d) (a b a' b':ByteArray),fOk d f a b->lessB a a'=false->leU b b'->fOk d f a' b'
 | 0,f,a,b,a',b',h,h1,h2=>⟨fun p hp=>⟨(h.1 p hp).1,(h.1 p hp).2.1,CP (h.1 p hp).2.2 h1 h2⟩,h.2⟩
 | d+1,f,a,b,a',b',h,h1,h2=>⟨h.1,Gi (fun t x y x' y' ht e1 e2=>⟨ht.1,ht.2.1,ht.2.2.1,Iz d t.2 x y x' y' ht.2.2.2 e1 e2⟩) _ _ _ _ _ _ h.2 h1 h2⟩
theorem Ja(d:Nat)(t:Int × Fo d)(a b a' b':ByteArray)(h:tOk d t a b)(h1:lessB a a'=false)(h2:leU b b'):tOk d t a' b':=⟨h.1,h.2.1,h.2.2.1,Iz d t.2 a b a' b' h.2.2.2 h1 h2⟩
theorem A0{α:Type}{P:α->ByteArray->ByteArray->Prop}:∀(ks:List ByteArray) (ts:List α) (lo hi:ByteArray),AD P ks ts lo hi->ts.length=ks.length+1
 | [],[t],lo,hi,h=>rfl
 | k::ks,t::ts,lo,hi,h=>by rw[List.length_cons,List.length_cons,A0 ks ts k hi h.2]
 | [],[],_,_,h=>h.elim
 | _::_,[],_,_,h=>h.elim
 | [],_::_::_,_,_,h=>h.elim
theorem D8{α:Type}{P:α->ByteArray->ByteArray->Prop}:∀(kg:List ByteArray) (G:List α) (k:ByteArray) (ks:List ByteArray) (ts:List α) (lo hi:ByteArray),AD P kg G lo k->AD P ks ts k hi->AD P (kg++k::ks) (G++ts) lo hi
 | [],[t],k,ks,ts,lo,hi,h,h'=>⟨h,h'⟩
 | j::kg,t::G,k,ks,ts,lo,hi,h,h'=>⟨h.1,D8 kg G k ks ts j hi h.2 h'⟩
 | [],[],_,_,_,_,_,h,_=>h.elim
 | _::_,[],_,_,_,_,_,h,_=>h.elim
 | [],_::_::_,_,_,_,_,_,h,_=>h.elim
theorem CJ{α:Type}{P:α->ByteArray->ByteArray->Prop}:∀(G:List α) (ks:List ByteArray) (ts:List α) (lo hi:ByteArray),G≠[]->ts≠[]->AD P ks (G++ts) lo hi->AD P (ks.take (G.length - 1)) G lo (ks.getD (G.length - 1) hi)/\AD P (ks.drop G.length) ts (ks.getD (G.length - 1) hi) hi/\G.length<=ks.length
 | [],_,_,_,_,h,_,_=>absurd rfl h
 | [t],k::ks,ts,lo,hi,_,_,h=>⟨h.1,h.2,by simp⟩
 | [t],[],s::ts,lo,hi,_,_,h=>h.elim
 | [t],[],[],lo,hi,_,h',_=>absurd rfl h'
 | t::s::G,k::ks,ts,lo,hi,_,h',h=>by
  obtain⟨h1,h2,h3⟩:=CJ (s::G) ks ts k hi (by simp) h' h.2
  refine⟨⟨h.1,?_⟩,?_,by simp only[List.length_cons]at h3 |-;omega⟩
  ·simpa using h1
  ·simpa using h2
 | t::s::G,[],ts,lo,hi,_,_,h=>h.elim
def lowB(ks:List ByteArray)(lo:ByteArray)(i:Nat):ByteArray:=if i=0 then lo else ks.getD (i - 1) ⟨#[]⟩
theorem Ee{α:Type}{P:α->ByteArray->ByteArray->Prop}(A G B:List α)(ks:List ByteArray)(lo hi:ByteArray)(hG:G≠[])(h:AD P ks (A++G++B) lo hi) :
  AD P ((ks.drop A.length).take (G.length - 1)) G (lowB ks lo A.length) (ks.getD (A.length+G.length - 1) hi) /\
  ∀kg' G',AD P kg' G' (lowB ks lo A.length) (ks.getD (A.length+G.length - 1) hi)->AD P (ks.take A.length++kg'++ks.drop (A.length+G.length - 1)) (A++G'++B) lo hi:=by
 have hlen:=A0 _ _ _ _ h;simp only[List.length_append]at hlen;have hg1:1<=G.length:=List.length_pos_iff.2 hG;have right:∀(ks:List ByteArray) (lo:ByteArray),ks.length+1=G.length+B.length->AD P ks (G++B) lo hi->AD P (ks.take (G.length - 1)) G lo (ks.getD (G.length - 1) hi)/\∀kg' G',AD P kg' G' lo (ks.getD (G.length - 1) hi)->AD P (kg'++ks.drop (G.length - 1)) (G'++B) lo hi:=by
  intro ks lo hl h;cases B with
  | nil =>
   rw[List.append_nil]at h;have e:ks.length=G.length - 1:=by simp at hl;omega
   rw[List.take_of_length_le (by omega),List.drop_eq_nil_of_le (by omega),List.getD_eq_getElem?_getD,List.getElem?_eq_none (by omega)];exact⟨h,fun kg' G' h'=>by rw[List.append_nil,List.append_nil];exact h'⟩
  | cons s B =>
   obtain⟨h1,h2,h3⟩:=CJ G ks (s::B) lo hi hG (by simp) h;refine⟨h1,fun kg' G' h'=>?_⟩;have hlt:G.length - 1<ks.length:=by omega
   have e:ks.drop (G.length - 1)=ks.getD (G.length - 1) hi::ks.drop G.length:=by
    rw[List.drop_eq_getElem_cons hlt,List.getD_eq_getElem?_getD,List.getElem?_eq_getElem hlt,show G.length - 1+1=G.length by omega];rfl
   rw[e];exact D8 kg' G' _ _ _ lo hi h' h2
 rw[List.append_assoc]at h;cases A with
 | nil =>
  rw[List.nil_append]at h;obtain⟨h1,h2⟩:=right ks lo (by simp at hlen;omega) h;simp only[List.length_nil,List.drop_zero,Nat.zero_add,List.take_zero,List.nil_append]at h1 h2 |-;exact⟨h1,fun kg' G' h'=>h2 kg' G' h'⟩
 | cons a A =>
  obtain⟨h1,h2,h3⟩:=CJ (a::A) ks (G++B) lo hi (by simp) (fun e=>hG (List.append_eq_nil_iff.1 e).1) h;have hn:(a::A).length - 1<ks.length:=by simp only[List.length_cons]at h3 |-;omega
  have elow:lowB ks lo (a::A).length=ks.getD ((a::A).length - 1) hi:=by
   unfold lowB;rw[if_neg (by simp),List.getD_eq_getElem?_getD,List.getD_eq_getElem?_getD,List.getElem?_eq_getElem hn];rfl
  have hdl:(ks.drop (a::A).length).length=ks.length - (a::A).length:=List.length_drop;obtain⟨r1,r2⟩:=right (ks.drop (a::A).length) (ks.getD ((a::A).length - 1) hi) (by rw[hdl];omega) h2;have eup:(ks.drop (a::A).length).getD (G.length - 1) hi=ks.getD ((a::A).length+G.length - 1) hi:=by
   rw[List.getD_eq_getElem?_getD,List.getD_eq_getElem?_getD,List.getElem?_drop,show (a::A).length+(G.length - 1)=(a::A).length+G.length - 1 by omega]
  rw[eup]at r1 r2;rw[elow];refine⟨r1,fun kg' G' h'=>?_⟩;have r3:=r2 kg' G' h';rw[List.drop_drop,show (a::A).length+(G.length - 1)=(a::A).length+G.length - 1 by omega]at r3;have e:ks.take (a::A).length=ks.take ((a::A).length - 1)++[ks.getD ((a::A).length - 1) hi]:=by
   have e1:(a::A).length=(a::A).length - 1+1:=by simp
   have e2:=List.take_succ_eq_append_getElem hn;rw[<-e1]at e2;rw[e2,List.getD_eq_getElem?_getD,List.getElem?_eq_getElem hn];rfl
  rw[e,List.append_assoc,List.append_assoc,List.append_assoc];exact D8 _ _ _ _ _ lo hi h1 r3
end Go.Proofs.YtjojffepakclcaaGreatDoor
namespace Go.Proofs.YtjojffepakclcaaGreatDoor
open Go.RowKit
open Go.ChangeMaps (setBlock)
def saysB(s:ByteArray):Bool:=strN s != 0
set_option maxRecDepth 100000 in
theorem Ju(s:ByteArray)(w:World):Calls prog 73 #[.string s] w fun e w'=>e=.returned (.bool (saysB s))/\w'=w:=by
 by_cases hs:0<s.size
 ·have hN:=KM s hs;have hi:0<(s.size:Int):=by omega
  have hb:((strN s:Int) != 0)=saysB s:=by
   unfold saysB;rw[Bool.eq_iff_iff];simp
  go_enter func73,ntmps73;go_wp2;go_ret;exact⟨rfl,rfl⟩
 ·have hz:s.size=0:=by omega
  have hd:s.data.toList=[]:=List.eq_nil_of_length_eq_zero (by rw[Array.length_toList];exact hz);have hb:saysB s=false:=by simp[saysB,strN,hd]
  rw[hb];go_enter func73,ntmps73;go_wp2;go_ret;exact⟨rfl,rfl⟩
theorem La(k j:Int)(w:World):Calls prog 117 #[.int .i64 k,.int .i64 j] w fun e w'=>e=.returned (.int .i64 (wrap64 (126+4*k+j)))/\w'=w:=by
 go_enter func117,ntmps117;go_wp2;go_ret;exact⟨reti (by first|rfl|go_num|(unfold wrap64;omega)),rfl⟩
theorem In(k:Int)(w:World):Calls prog 31 #[.int .i64 k] w fun e w'=>e=.returned (.int .i64 (wrap64 (126+4*k)))/\w'=w:=by
 go_enter func31,ntmps31;go_wp2;go_ret;exact⟨reti (by first|rfl|go_num|(unfold wrap64;omega)),rfl⟩
structure Mi (c:Int->Option Value) (es:List MapEntry) (cl:Nat):Prop where
 e1:∀e∈es,∃z:Int,e.key=.int .i64 z/\c z=some e.val
 e2:∀z x,c z=some x->∃e∈es,e.key=.int .i64 z
 e3:es.Pairwise (fun a b=>a.key≠b.key)
 e4:∀e∈es,e.born<cl
 e5:(es.map (·.born)).Nodup
theorem Mi.nil(cl:Nat):Mi (fun _=>none) [] cl:=⟨by simp,by simp,List.Pairwise.nil,by simp,by simp⟩
theorem Mi.keys{c:Int->Option Value}{es:List MapEntry}{cl:Nat}(h:Mi c es cl):∀e∈es,∃z:Int,e.key=.int .i64 z:=fun e he=>by
 obtain⟨z,hk,_⟩:=h.e1 e he
 exact⟨z,hk⟩
theorem Mi.find{c:Int->Option Value}{es:List MapEntry}{cl:Nat}(h:Mi c es cl)(z:Int) :
  (c z=none/\Instr.findNow (.int .i64) (.int .i64 z) es 0=some none/\∀e∈es,e.key≠.int .i64 z) \/
  ∃j e,c z=some e.val/\es[j]?=some e/\e.key=.int .i64 z/\Instr.findNow (.int .i64) (.int .i64 z) es 0=some (some (j,e.val)):=by
 rcases Ey z es 0 h.keys with ⟨h1,h2⟩|⟨j,e,h1,h2,h3⟩
 ·refine .inl ⟨?_,h1,h2⟩;cases hu:c z with
  | none=>rfl
  | some x =>
   obtain⟨e,he,hk⟩:=h.e2 z x hu;exact absurd hk (h2 e he)
 ·obtain⟨z',hk,hv⟩:=h.e1 e (List.mem_of_getElem? h1);have:z'=z:=by
   rw[h2]at hk;exact((Value.int.inj hk).2).symm
  subst this;exact .inr ⟨j,e,hv,h1,h2,by rw[h3];simp⟩
def putI(c:Int->Option Value)(z:Int)(x:Value):Int->Option Value:=fun k=>if k=z then some x else c k
theorem En{w:World}{m:Nat}{es:Array MapEntry}{cl:Nat}{c:Int->Option Value}{t e:TypeId}(ht:prog.underlying t=some (.map 3 e)){zv:Value}(hz:∀W,(zeroValue e).run prog W=.ok zv W)
  (hm:w.heap[m]?=some (.map es cl)) (h:Mi c es.toList cl) (z:Int) (ok:Bool) :
  (Instr.lookup t (.map (some m)) (.int .i64 z) ok).run prog w=.ok (if ok then .tuple #[(c z).getD zv,.bool (c z).isSome] else (c z).getD zv) w:=by
 rcases h.find z with ⟨h1,h2,_⟩|⟨j,e,h1,_,_,h2⟩
 ·simp only[Instr.lookup,Sem.run_bind,run_underlying ht,Result.andThen_ok,MapKept.run_getObj_map hm,Sem.run_pure,Bt,Instr.findKey,run_underlying underlying3,h2,hz,h1,Option.getD_none,Option.isSome_none]
 ·simp only[Instr.lookup,Sem.run_bind,run_underlying ht,Result.andThen_ok,MapKept.run_getObj_map hm,Sem.run_pure,Bt,Instr.findKey,run_underlying underlying3,h2,h1,Option.getD_some,Option.isSome_some]
theorem MJ{w:World}{m:Nat}{es:Array MapEntry}{cl:Nat}{c:Int->Option Value}{t e:TypeId}(ht:prog.underlying t=some (.map 3 e))(hm:w.heap[m]?=some (.map es cl))(h:Mi c es.toList cl)(z:Int)(x:Value) :
  ∃es' cl',(Instr.mapUpdate t (.map (some m)) (.int .i64 z) x).run prog w=.ok () (setBlock w m (.map es' cl'))/\Mi (putI c z x) es'.toList cl':=by
 rcases h.find z with ⟨h1,h2,h3⟩|⟨j,e,h1,h3,h4,h2⟩
 ·refine⟨es.push { key:=.int .i64 z,val:=x,born:=cl },cl+1,?_,?_⟩
  ·simp only[Instr.mapUpdate,Sem.run_bind,run_underlying ht,Result.andThen_ok,MapKept.run_getObj_map hm,Sem.run_pure,Bt,Instr.findKey,run_underlying underlying3,h2,MapKept.run_setObj_map _ hm];rfl
  ·have ne:∀k y,c k=some y->k≠z:=fun k y hk e=>by subst e;rw[h1]at hk;cases hk
   rw[Array.toList_push];refine⟨fun e he=>?_,fun k y hk=>?_,?_,fun e he=>?_,?_⟩
   ·rcases List.mem_append.1 he with he|he
    ·obtain⟨k,b,a⟩:=h.e1 e he;exact⟨k,b,by simp[putI,ne k _ a,a]⟩
    ·have:e={ key:=.int .i64 z,val:=x,born:=cl }:=by simpa using he
     subst this;exact⟨z,rfl,by simp[putI]⟩
   ·by_cases e:k=z
    ·subst e;exact⟨{ key:=.int .i64 k,val:=x,born:=cl },List.mem_append.2 (.inr (by simp)),rfl⟩
    ·simp only[putI,e,if_false]at hk;obtain⟨e',he',hk'⟩:=h.e2 k y hk;exact⟨e',List.mem_append.2 (.inl he'),hk'⟩
   ·rw[List.pairwise_append];refine⟨h.e3,List.pairwise_singleton _ _,fun a ha b hb=>?_⟩;have:b={ key:=.int .i64 z,val:=x,born:=cl }:=by simpa using hb
    subst this;exact h3 a ha
   ·rcases List.mem_append.1 he with he|he
    ·have:=h.e4 e he;omega
    ·have:e={ key:=.int .i64 z,val:=x,born:=cl }:=by simpa using he
     subst this;exact Nat.lt_succ_self _
   ·rw[List.map_append,List.nodup_append];refine⟨h.e5,by simp,fun a ha b hb=>?_⟩;obtain⟨e,he,rfl⟩:=List.mem_map.1 ha;have:=h.e4 e he;have:b=cl:=by simpa using hb
    omega
 ·have hj:j<es.size:=by have:=(List.getElem?_eq_some_iff.1 h3).1;simpa using this
  have hej:es[j]?=some e:=by rw[<-Array.getElem?_toList];exact h3
  refine⟨es.modify j fun e=>{ e with key:=.int .i64 z,val:=x },cl,?_,?_⟩
  ·have hs:(Instr.keyThatStays (.int .i64 z) (.int .i64 z)).run prog w=.ok (.int .i64 z) w:=by
    unfold Instr.keyThatStays;rw[if_pos (by simp[Instr.sameBits])];rfl
   simp only[Instr.mapUpdate,Sem.run_bind,run_underlying ht,Result.andThen_ok,MapKept.run_getObj_map hm,Sem.run_pure,Bt,Instr.findKey,run_underlying underlying3,h2,hej,Option.map_some,Option.getD_some,h4,hs,MapKept.run_setObj_map _ hm];rfl
  ·have hl:(es.modify j fun e=>{ e with key:=.int .i64 z,val:=x }).toList=es.toList.modify j fun e=>{ e with key:=.int .i64 z,val:=x }:=by simp
   rw[hl];have hget:∀(k:Nat) (e':MapEntry),(es.toList.modify j fun e=>{ e with key:=.int .i64 z,val:=x })[k]?=some e' ->
     (k=j/\e'={ e with key:=.int .i64 z,val:=x })\/(k≠j/\es.toList[k]?=some e'):=by
    intro k e' hk;rw[List.getElem?_modify]at hk;by_cases ek:j=k
    ·subst ek;rw[h3]at hk;simp at hk;exact .inl ⟨rfl,hk.symm⟩
    ·simp only[ek,if_false]at hk;exact .inr ⟨fun e=>ek e.symm,by simpa using hk⟩
   have hkeys:(es.toList.modify j fun e=>{ e with key:=.int .i64 z,val:=x }).map (·.key)=es.toList.map (·.key):=by
    apply List.ext_getElem?;intro k;rw[List.getElem?_map,List.getElem?_map,List.getElem?_modify];by_cases ek:j=k
    ·subst ek;rw[h3];simp[h4]
    ·simp[ek]
   have hborn:(es.toList.modify j fun e=>{ e with key:=.int .i64 z,val:=x }).map (·.born)=es.toList.map (·.born):=by
    apply List.ext_getElem?;intro k;rw[List.getElem?_map,List.getElem?_map,List.getElem?_modify];by_cases ek:j=k
    ·subst ek;rw[h3];simp
    ·simp[ek]
   have huniq:∀k e',es.toList[k]?=some e'->e'.key=.int .i64 z->k=j:=fun k e' hk hkey=>by
    have hp:=List.pairwise_iff_getElem.1 h.e3;have hk':=(List.getElem?_eq_some_iff.1 hk);have hj':=(List.getElem?_eq_some_iff.1 h3);obtain⟨lk,vk⟩:=hk';obtain⟨lj,vj⟩:=hj';rcases Nat.lt_trichotomy k j with hlt|heq|hgt
    ·exact absurd (by rw[vk,vj,hkey,h4]) (hp k j lk lj hlt)
    ·exact heq
    ·exact absurd (by rw[vk,vj,hkey,h4]) (hp j k lj lk hgt)
   refine⟨fun e' he'=>?_,fun k y' hk=>?_,?_,fun e' he'=>?_,by rw[hborn];exact h.e5⟩
   ·obtain⟨k,hk⟩:=List.getElem?_of_mem he';rcases hget k e' hk with ⟨rfl,rfl⟩|⟨hne,hk'⟩
    ·exact⟨z,rfl,by simp[putI]⟩
    ·obtain⟨k',b,a⟩:=h.e1 e' (List.mem_of_getElem? hk');have:k'≠z:=fun e0=>hne (huniq k e' hk' (by rw[b,e0]));exact⟨k',b,by simp[putI,this,a]⟩
   ·have:∃y0,c k=some y0:=by
     by_cases e0:k=z
     ·subst e0;exact⟨_,h1⟩
     ·simp only[putI,e0,if_false]at hk;exact⟨y',hk⟩
    obtain⟨y0,hy0⟩:=this;obtain⟨e',he',hk'⟩:=h.e2 k y0 hy0;have hmem:(Value.int .i64 k)∈(es.toList.modify j fun e=>{ e with key:=.int .i64 z,val:=x }).map (·.key):=by
     rw[hkeys,<-hk'];exact List.mem_map_of_mem he'
    obtain⟨e2,he2,hk2⟩:=List.mem_map.1 hmem;exact⟨e2,he2,hk2⟩
   ·have:=List.pairwise_map (f:=fun e:MapEntry=>e.key) (R:=(·≠·)) (l:=es.toList.modify j fun e=>{ e with key:=.int .i64 z,val:=x });rw[<-this,hkeys,List.pairwise_map];exact h.e3
   ·have hmem:e'.born∈(es.toList.modify j fun e=>{ e with key:=.int .i64 z,val:=x }).map (·.born):=List.mem_map_of_mem he';rw[hborn]at hmem;obtain⟨e2,he2,hb2⟩:=List.mem_map.1 hmem;rw[<-hb2];exact h.e4 e2 he2
theorem Ow.cellAt{α:Type}{f:α->Value}{e:TypeId}{w:World}{base g n cap:Nat}{l:List α}(h:Ow f e w base (.slice (some ⟨g,0,none⟩) n cap) l)(j:Nat)(hj:j<l.length):w.cell? ⟨g,j,none⟩=some (f l[j])/\w.frozen? ⟨g,j,none⟩=false:=by
 have hn:n=l.length:=by
  rcases h.2 with ⟨h1,_⟩|⟨g',cap',cur,h1,_⟩
  ·cases h1
  ·cases h1;rfl
 subst hn;refine⟨?_,World.ownsRow.frozenAt (g:=g) (cap:=cap) h j⟩;rw[World.ownsRow.cellAt (g:=g) (cap:=cap) h j (by omega)];simp[hj]
theorem Ow.mono{α:Type}{f:α->Value}{e:TypeId}{w:World}{base base':Nat}{v:Value}{l:List α}(h:Ow f e w base v l)(hb:base'<=base):Ow f e w base' v l:=by
 refine⟨h.1,?_⟩;rcases h.2 with hn|⟨g,cap,cur,rfl,hb2,rest⟩
 ·exact .inl hn
 ·exact .inr ⟨g,cap,cur,rfl,by omega,rest⟩
end Go.Proofs.YtjojffepakclcaaGreatDoor
namespace Go.Proofs.YtjojffepakclcaaGreatDoor
open Go.RowKit
def cutAt(s:ByteArray)(j:Nat):ByteArray:=s.extract (j*64) ((j+1)*64)
theorem OB:(prog.info? 9).map (fun i=>(i.zero,i.size,i.bytes))=some (some (.string ByteArray.empty),1,16):=by kernel_rfl
theorem Er(w:World)(n:Nat)(hn:n<=1000000):∃wa,(Instr.makeSlice 70 (.int .i64 n) (.int .i64 n)).run prog w=.ok (.slice (some ⟨w.heap.size,0,none⟩) n n) wa/\Ow Value.string 9 wa w.heap.size (.slice (some ⟨w.heap.size,0,none⟩) n n) (List.replicate n ByteArray.empty)/\Kp none' w wa:=by
 obtain⟨i0,hi,hz0,hz1,hz2⟩:=info_parts OB;obtain⟨wa,hmk,hOa,hga⟩:=run_make_full (P:=prog) w w.heap.size 70 9 i0 _ 1 underlying70 hi hz0 hz1 .i64 .i64 n (by rw[hz2];omega) (by unfold maxLen;omega) (Nat.le_refl _);refine⟨wa,hmk,?_,Kp.ofN hga _⟩;have e:(madeCells (Value.string ByteArray.empty).cells (n*1)).toList=(List.replicate n ByteArray.empty).map Value.string:=by
  show (madeCells #[Value.string ByteArray.empty] (n*1)).toList=_;rw[toList_madeCells_one];simp
 unfold Ow;rw[List.length_replicate,<-e];exact hOa
theorem Ll(pre:List ByteArray)(m:Nat)(x:ByteArray):(pre++List.replicate (m+1) ByteArray.empty).set pre.length x=(pre++[x])++List.replicate m ByteArray.empty:=by
 rw[List.set_append_right _ _ (Nat.le_refl _),Nat.sub_self,List.replicate_succ,PU,List.append_assoc];rfl
def okJ(l:List ByteArray):Bool:=decide (l.length=4/\∀s∈l,s.size=64)
def catB(l:List ByteArray):List UInt8:=l.flatMap fun s=>s.data.toList
def joinS(l:List ByteArray):ByteArray:=⟨(if okJ l then catB l else []).toArray⟩
def joinE(l:List ByteArray):Int:=if okJ l then 0 else 1
theorem IZ:∀(l:List ByteArray),(∀s∈l,s.size=64)->(catB l).length=64*l.length
 | [],_=>rfl
 | s::l,h=>by
  have h1:=IZ l (fun x hx=>h x (by simp[hx]))
  have h2:=h s (by simp)
  have e:(catB (s::l)).length=s.data.toList.length+(catB l).length:=by simp[catB]
  have e2:s.data.toList.length=s.size:=by rw[Array.length_toList];rfl
  rw[e,h1,e2,h2,List.length_cons]
  omega
theorem Pj{l:List ByteArray}{k:Nat}(hk:k<l.length)(h:l[k].size≠64):okJ l=false:=by
 unfold okJ;rw[decide_eq_false_iff_not];rintro ⟨_,h2⟩;exact h (h2 _ (List.getElem_mem hk))
end Go.Proofs.YtjojffepakclcaaGreatDoor
namespace Go.Proofs.YtjojffepakclcaaGreatDoor
open Go Go.RowKit
open Go.ChangeMaps (setBlock)
structure Mp (u:Nat->Option (List UInt8)) (es:List MapEntry) (cl:Nat):Prop where
 e1:∀e∈es,∃(i:Nat) (x:List UInt8),u i=some x/\e.key=.int .i64 (i:Int)/\e.val=secV x
 e2:∀(i:Nat) (x:List UInt8),u i=some x->∃e∈es,e.key=.int .i64 (i:Int)
 e3:es.Pairwise (fun a b=>a.key≠b.key)
 e4:∀e∈es,e.born<cl
 e5:(es.map (·.born)).Nodup
theorem Mp.nil(cl:Nat):Mp (fun _=>none) [] cl:=⟨by simp,by simp,List.Pairwise.nil,by simp,by simp⟩
structure Dp where
 d:Nat
 s:Nat
 m:Nat
structure Dv where
 n:Nat
 s:Nat->List UInt8
 u:Nat->Option (List UInt8)
 c:Int
 st:Bool
 f:Int
def Dp.mem(p:Dp)(k:Nat):Prop:=k=p.d\/k=p.s\/k=p.m
structure Dev (w:World) (p:Dp) (D:Dv):Prop where
 c0:w.cell? ⟨p.d,0,none⟩=some (.slice (some ⟨p.s,0,none⟩) D.n D.n)
 c1:w.cell? ⟨p.d,1,none⟩=some (.map (some p.m))
 c2:w.cell? ⟨p.d,2,none⟩=some (.int .i64 D.c)
 c3:w.cell? ⟨p.d,3,none⟩=some (.bool D.st)
 c4:w.cell? ⟨p.d,4,none⟩=some (.int .i64 D.f)
 fd:∀j,w.frozen? ⟨p.d,j,none⟩=false
 rs:∀i,i<D.n->w.rangeAt p.s (i*64) (bcs (D.s i))
 ts:w.there p.s 0 (D.n*64)
 ls:p.s<w.heap.size
 mp:∃es cl,w.heap[p.m]?=some (.map es cl)/\Mp D.u es.toList cl
 ds:p.d≠p.s
 dm:p.d≠p.m
 sm:p.s≠p.m
 n4:D.n<=4096
 l1:∀i,i<D.n->(D.s i).length=64
 l2:∀i x,D.u i=some x->i<D.n/\x.length=64
theorem Dev.ld{w:World}{p:Dp}{D:Dv}(h:Dev w p D):p.d<w.heap.size:=lt_of_cell h.c0
theorem Dev.lm{w:World}{p:Dp}{D:Dv}(h:Dev w p D):p.m<w.heap.size:=by
 obtain⟨es,cl,hm,_⟩:=h.mp;exact(Array.getElem?_eq_some_iff.1 hm).1
theorem Dev.lt{w:World}{p:Dp}{D:Dv}(h:Dev w p D):∀k,p.mem k->k<w.heap.size:=by
 rintro k (rfl|rfl|rfl)
 ·exact h.ld
 ·exact h.ls
 ·exact h.lm
theorem Dev.kept{w w':World}{p:Dp}{D:Dv}{S:Nat->Prop}(h:Dev w p D)(hk:Kp S w w')(hS:∀k,p.mem k->¬S k):Dev w' p D:=by
 have hd:¬S p.d:=hS _ (.inl rfl);have hs:¬S p.s:=hS _ (.inr (.inl rfl));have hm:¬S p.m:=hS _ (.inr (.inr rfl));obtain⟨es,cl,h1,h2⟩:=h.mp;exact⟨hk.cell h.c0 hd,hk.cell h.c1 hd,hk.cell h.c2 hd,hk.cell h.c3 hd,hk.cell h.c4 hd,fun j=>by rw[hk.frozen h.ld hd];exact h.fd j,
  fun i hi=>hk.rangeAt (h.rs i hi) hs,hk.there h.ts hs,PW h.ls hk.size,⟨es,cl,by rw[hk.block _ h.lm hm];exact h1,h2⟩,h.ds,h.dm,h.sm,h.n4,h.l1,h.l2⟩
theorem Dev.keptN{w w':World}{p:Dp}{D:Dv}(h:Dev w p D)(hk:Kp none' w w'):Dev w' p D:=h.kept hk (fun _ _ h=>h)
end Go.Proofs.YtjojffepakclcaaGreatDoor
namespace Go.Proofs.YtjojffepakclcaaGreatDoor
open Go.RowKit
theorem Id(p:Dp)(D:Dv)(w:World)(h:Dev w p D):Calls prog 50 #[.pointer (some ⟨p.d,0,none⟩)] w fun e w'=>e=.returned (.int .i64 D.n)/\w'=w:=by
 have h0:=h.c0;go_enter func50,ntmps50;go_wp2;go_ret;exact⟨rfl,rfl⟩
def hasB(n:Nat)(i:Int):Bool:=decide (0<=i/\i<n)
theorem GG(p:Dp)(D:Dv)(i:Int)(w:World)(h:Dev w p D):Calls prog 102 #[.pointer (some ⟨p.d,0,none⟩),.int .i64 i] w fun e w'=>e=.returned (.bool (hasB D.n i))/\w'=w:=by
 by_cases h0:0<=i;all_goals
  go_enter func102,ntmps102;go_wp2_with (go_at_call 50;refine(Id _ _ _ h).mono ?_;rintro e w' ⟨rfl,rfl⟩);go_ret;exact⟨by simp[hasB,h0]<;>omega,rfl⟩
theorem Dev.drew{w:World}{p:Dp}{D:Dv}(h:Dev w p D):Dev w.drew p D:=h.kept (Kp.drew none' w) (fun _ _ h=>h)
theorem E1:(prog.info? 177).map (·.size)=some 64:=by kernel_rfl
end Go.Proofs.YtjojffepakclcaaGreatDoor
namespace Go.Proofs.YtjojffepakclcaaGreatDoor
open Go.RowKit
open Go.ChangeMaps (setBlock)
theorem KC(w:World):(zeroValue 177).run prog w=.ok (.agg (bcs Al).toArray) w:=Tryz.zeroValue177 w
theorem Mp.keys{u:Nat->Option (List UInt8)}{es:List MapEntry}{cl:Nat}(h:Mp u es cl):∀e∈es,∃z:Int,e.key=.int .i64 z:=fun e he=>by
 obtain⟨i,x,_,hk,_⟩:=h.e1 e he
 exact⟨_,hk⟩
theorem Mp.find{u:Nat->Option (List UInt8)}{es:List MapEntry}{cl:Nat}(h:Mp u es cl)(i:Nat) :
  (u i=none/\Instr.findNow (.int .i64) (.int .i64 (i:Int)) es 0=some none/\∀e∈es,e.key≠.int .i64 (i:Int)) \/
  ∃j e x,u i=some x/\es[j]?=some e/\e.key=.int .i64 (i:Int)/\e.val=secV x/\Instr.findNow (.int .i64) (.int .i64 (i:Int)) es 0=some (some (j,secV x)):=by
 rcases Ey (i:Int) es 0 h.keys with ⟨h1,h2⟩|⟨j,e,h1,h2,h3⟩
 ·refine .inl ⟨?_,h1,h2⟩;cases hu:u i with
  | none=>rfl
  | some x =>
   obtain⟨e,he,hk⟩:=h.e2 i x hu;exact absurd hk (h2 e he)
 ·obtain⟨i',x,hu,hk,hv⟩:=h.e1 e (List.mem_of_getElem? h1);have:i'=i:=by
   rw[h2]at hk;have:=(Value.int.inj hk).2;omega
  subst this;exact .inr ⟨j,e,x,hu,h1,h2,hv,by rw[h3,hv];simp⟩
def lookV(u:Nat->Option (List UInt8))(i:Nat):List UInt8:=(u i).getD Al
theorem Ok{w:World}{m:Nat}{es:Array MapEntry}{cl:Nat}{u:Nat->Option (List UInt8)}(hm:w.heap[m]?=some (.map es cl))(h:Mp u es.toList cl)(i:Nat)(ok:Bool) :
  (Instr.lookup 118 (.map (some m)) (.int .i64 (i:Int)) ok).run prog w=.ok (if ok then .tuple #[.agg (bcs (lookV u i)).toArray,.bool (u i).isSome] else .agg (bcs (lookV u i)).toArray) w:=by
 rcases h.find i with ⟨h1,h2,_⟩|⟨j,e,x,h1,_,_,_,h2⟩
 ·simp only[Instr.lookup,Sem.run_bind,run_underlying underlying118,Result.andThen_ok,MapKept.run_getObj_map hm,Sem.run_pure,Bt,Instr.findKey,run_underlying underlying3,h2,KC,lookV,h1,Option.getD_none,Option.isSome_none]
 ·simp only[Instr.lookup,Sem.run_bind,run_underlying underlying118,Result.andThen_ok,MapKept.run_getObj_map hm,Sem.run_pure,Bt,Instr.findKey,run_underlying underlying3,h2,lookV,h1,Option.getD_some,Option.isSome_some,secV]
theorem Cy{w:World}{ops:Array Oper}{rest:List Oper}{o:Oper}{a:Act}{Q:Exit->Act->World->Prop}(hgd:o.guard=none)(ho:o.op=.alloc 177)
  (h:wpList prog ops Q rest (a.put o.dst (.pointer (some ⟨w.heap.size,0,none⟩))) (w.alloc (.cells (bcs Al).toArray 177))):wpList prog ops Q (o::rest) a w :=
 wpList_plain hgd fun _ hK=>by
  unfold Oper.wp execOp
  simp only[ho,Instr.alloc,newVar,newRow,Value.cells,Sem.run_bind,Sem.run_pure,Result.andThen_ok,KC]
  exact hK _ _ h
def Dv.at(D:Dv)(k:Nat):List UInt8:=(D.u k).getD (D.s k)
def rdL(D:Dv)(i:Int):List UInt8:=if hasB D.n i then D.at i.toNat else []
theorem GC(w:World)(x:List UInt8):(w.alloc (.cells (bcs x).toArray 177)).there w.heap.size 0 x.length:=fun j hj=>by
 rw[Nat.zero_add,cell_of_row _ _ _ _ _ (0,0) (heap_alloc_new w _)]
 refine⟨by simp[bcs,hj],?_⟩
 unfold World.frozen?
 rw[show (w.alloc (.cells (bcs x).toArray 177)).heap[(⟨w.heap.size,j,none⟩:Addr).block]?=_ from heap_alloc_new w _]
 simp
theorem DR{w:World}{g:Nat}{x:List UInt8}(h:w.rangeAt g 0 (bcs x))(hx:x.length=64):(convert 161 9 (.slice (some ⟨g,0,none⟩) 64 64)).run prog w=.ok (.string ⟨x.toArray⟩) w:=by
 have:=run_convert_bytes_back (P:=prog) w 161 9 5 ⟨g,0,none⟩ 64 x underlying161 underlying5 underlying9 (fun j hj=>by
  have e:(⟨g,0,none⟩:Addr).add j=⟨g,0+j,none⟩:=by unfold Addr.add;split<;>simp_all
  rw[e];exact h j _ (JK x j hj))
 rw[hx]at this;exact this
set_option maxRecDepth 100000 in
theorem IR(p:Dp)(D:Dv)(i:Int)(w:World)(hD:Dev w p D) :
  Calls prog 74 #[.pointer (some ⟨p.d,0,none⟩),.int .i64 i] w fun e w'=>e=.returned (.string ⟨(rdL D i).toArray⟩)/\Kp none' w w':=by
 by_cases hh:hasB D.n i=true
 ·obtain⟨k,rfl⟩:∃k:Nat,i=k:=⟨i.toNat,by simp[hasB]at hh;omega⟩;have hk:k<D.n:=by simp[hasB]at hh;omega
  have h4:=hD.n4;have hE:rdL D k=D.at k:=by simp[rdL,hh]
  rw[hE];obtain⟨es,cl,hm,hM⟩:=hD.mp;have hlk:=Ok hm hM k true;simp only[if_true]at hlk;have h0:=hD.c0;have h1:=hD.c1;have hu:prog.underlying 177=_:=underlying177;cases hx:D.u k with
  | some x =>
   have hxl:=(hD.l2 k x hx).2;have hA:D.at k=x:=by simp[Dv.at,hx]
   rw[hA];have e1:lookV D.u k=x:=by simp[lookV,hx]
   rw[e1,hx]at hlk;simp only[Option.isSome_some]at hlk;clear hm hM hE hA e1;go_enter func74,ntmps74;go_upto_region 3 with (go_at_call 102;refine(GG _ _ _ _ hD).mono ?_;rintro e wb ⟨rfl,rfl⟩;rw[hh]);have ht:=GC wb Al;have hI:(prog.info? 177).map (·.size)=some (bcs x).toArray.size:=by rw[E1,List.size_toArray,Bb,hxl]
   have h1c:((bcs x).toArray).all (·.oneCell')=true:=all_oneCell_toArray (E4 x);rw[AO,<-hxl,<-Bb x,<-List.size_toArray]at ht;have hk2:=(Kp.alloc none' wb (.cells (bcs Al).toArray 177));have hl2:((wb.alloc (.cells (bcs Al).toArray 177)).setCells wb.heap.size 0 (bcs x)).rangeAt wb.heap.size 0 (bcs x):=World.rangeAt_setCells_same _ _ _ _ (by rw[<-List.size_toArray];exact ht);have hcv:=DR hl2 hxl
   have hk3:=hk2.trans (Kp.setCells (S:=only wb.heap.size) wb.heap.size rfl (bcs x) 0 _) (S'':=none') (fun _ _ h=>h) (fun k hk h=>absurd hk (by unfold only at h;omega));obtain⟨w2,H2⟩:∃w2,Hid (wb.alloc (.cells (bcs Al).toArray 177)=w2):=⟨_,rfl⟩;rw[H2.out]at ht hl2 hcv hk3;go_upto_region 4 with (first
    | (refine Cy rfl rfl ?_;rw[H2.out];generalize wb.heap.size=g at *)
    | (refine wpList_store_mid rfl 177 (.tmp 5) (.tmp 18) rfl _ 0 (bcs x).toArray rfl rfl ht hI h1c ?_;rw[List.toList_toArray]))
   generalize w2.setCells g 0 (bcs x)=w3 at *;clear hl2 ht hlk h0 h1;go_wp2;go_ret;exact⟨rfl,hk3⟩
  | none =>
   have hA:D.at k=D.s k:=by simp[Dv.at,hx]
   rw[hA];have e1:lookV D.u k=Al:=by simp[lookV,hx]
   rw[e1,hx]at hlk;simp only[Option.isSome_none]at hlk;have hxl:=hD.l1 k hk;have hrs:=hD.rs k hk;have hls:=hD.ls;have hld:=hD.ld;obtain⟨x,Hx⟩:∃x,Hid (D.s k=x):=⟨_,rfl⟩;rw[Hx.out]at hxl hrs |-;clear hm hM hE hA e1;go_enter func74,ntmps74;go_upto_region 3 with (go_at_call 102;refine(GG _ _ _ _ hD).mono ?_;rintro e wb ⟨rfl,rfl⟩;rw[hh]);have ht:=GC wb Al
   have hI:(prog.info? 177).map (·.size)=some (bcs Al).toArray.size:=by rw[E1,List.size_toArray,Bb,AO]
   have h1c:((bcs Al).toArray).all (·.oneCell')=true:=all_oneCell_toArray (E4 Al);have hI2:(prog.info? 177).map (·.size)=some (bcs x).toArray.size:=by rw[E1,List.size_toArray,Bb,hxl]
   have hI3:(prog.info? 177).map (·.size)=some (bcs x).length:=by rw[E1,Bb,hxl]
   have h1c2:((bcs x).toArray).all (·.oneCell')=true:=all_oneCell_toArray (E4 x);have hg1:p.s≠wb.heap.size:=Nat.ne_of_lt hls;have hg2:p.d≠wb.heap.size:=Nat.ne_of_lt hld;rw[<-Bb Al,<-List.size_toArray]at ht;have hk2:=(Kp.alloc none' wb (.cells (bcs Al).toArray 177));have hk3:=hk2.trans (Kp.setCells (S:=only wb.heap.size) wb.heap.size rfl (bcs Al) 0 _) (S'':=none') (fun _ _ h=>h) (fun k hk h=>absurd hk (by unfold only at h;omega))
   have ht3:=World.there_setCells ht wb.heap.size 0 (bcs Al);have hrs3:=hk3.rangeAt hrs (fun h=>h);have h03:=hk3.cell h0 (fun h=>h);have eSz:(bcs Al).toArray.size=(bcs x).toArray.size:=by rw[List.size_toArray,List.size_toArray,Bb,Bb,AO,hxl]
   rw[eSz]at ht3;obtain⟨w2,H2⟩:∃w2,Hid (wb.alloc (.cells (bcs Al).toArray 177)=w2):=⟨_,rfl⟩;rw[H2.out]at ht hk3 ht3 hrs3 h03;obtain⟨w3,H3⟩:∃w3,Hid (w2.setCells wb.heap.size 0 (bcs Al)=w3):=⟨_,rfl⟩;rw[H3.out]at hk3 ht3 hrs3 h03;have hl4:(w3.setCells wb.heap.size 0 (bcs x)).rangeAt wb.heap.size 0 (bcs x):=World.rangeAt_setCells_same _ _ _ _ (by rw[<-List.size_toArray];exact ht3);have hcv:=DR hl4 hxl
   have hk4:=hk3.trans (Kp.setCells (S:=only wb.heap.size) wb.heap.size rfl (bcs x) 0 _) (S'':=none') (fun _ _ h=>h) (fun k hk h=>absurd hk (by unfold only at h;omega));go_upto_region 4 with (first
    | (refine Cy rfl rfl ?_;rw[H2.out];generalize wb.heap.size=g at *)
    | (refine wpList_store_mid rfl 177 (.tmp 5) (.tmp 18) rfl _ 0 (bcs Al).toArray rfl rfl ht hI h1c ?_;rw[List.toList_toArray,H3.out]))
   clear ht hlk h0 h1 hrs;go_upto_region 6 with (first
    | (refine wpList_load_mid rfl 177 (.tmp 27) rfl p.s (k*64) rfl (bcs x) _ hrs3 hu rfl hI3 ?_)
    | (refine wpList_store_mid rfl 177 (.tmp 5) (.tmp 28) rfl _ 0 (bcs x).toArray rfl rfl ht3 hI2 h1c2 ?_;rw[List.toList_toArray]))
   generalize w3.setCells g 0 (bcs x)=w4 at *;clear hl4 ht3 hrs3 h03;go_wp2;go_ret;exact⟨rfl,hk4⟩
 ·have hh':hasB D.n i=false:=by simpa using hh
  have hE:rdL D i=[]:=by simp[rdL,hh']
  rw[hE];go_enter func74,ntmps74;go_wp2_with (go_at_call 102;refine(GG _ _ _ _ hD).mono ?_;rintro e w' ⟨rfl,rfl⟩;rw[hh']);go_ret;exact⟨rfl,Kp.refl _ _⟩
theorem Nc:(prog.info? 177).map (fun i=>(i.zero,i.size,i.bytes))=some (some (.agg (bcs Al).toArray),64,64):=by kernel_rfl
theorem KT(N k:Nat)(hk:k<N*64):(madeCells (bcs Al).toArray (N*64))[k]?=some (.int .u8 0):=by
 have hm:k%64<64:=Nat.mod_lt _ (by omega);have hs:(bcs Al).toArray.size=64:=by simp[Bb,AO]
 unfold madeCells;rw[Array.getElem?_map,Array.getElem?_range,if_pos hk,hs];simp only[Option.map_some,Option.some.injEq];rw[getElem!_pos (bcs Al).toArray (k%64) (by omega)];have h1:=JK Al (k%64) (by rw[AO];exact hm);have e0:Al[k%64]'(by rw[AO];exact hm)=0:=by unfold Al;exact List.getElem_replicate _
 rw[e0]at h1;exact(List.getElem?_eq_some_iff.1 h1).2
def fresh(N:Nat):Dv:={ n:=N,s:=fun _=>Al,u:=fun _=>none,c:=0,st:=false,f:=0 }
theorem LP(w:World)(N:Nat)(hN:N<=4096) :
  Dev (((w.alloc (.cells (madeCells (bcs Al).toArray (N*64)) 177)).alloc (.map #[] 0)).alloc (.cells #[.slice (some ⟨w.heap.size,0,none⟩) N N,.map (some (w.heap.size+1)),.int .i64 0,.bool false,.int .i64 0] 120))
   ⟨w.heap.size+2,w.heap.size,w.heap.size+1⟩ (fresh N):=by
 obtain⟨wa,Ha⟩:∃wa,wa=w.alloc (.cells (madeCells (bcs Al).toArray (N*64)) 177):=⟨_,rfl⟩;have sa:wa.heap.size=w.heap.size+1:=by rw[Ha];simp
 obtain⟨wb,Hb⟩:∃wb,wb=wa.alloc (.map #[] 0):=⟨_,rfl⟩;have sb:wb.heap.size=w.heap.size+2:=by rw[Hb];simp[sa]
 rw[<-Ha,<-Hb];have ba:wa.heap[w.heap.size]?=some (.cells (madeCells (bcs Al).toArray (N*64)) 177 (0,0)):=by rw[Ha];exact heap_alloc_new w _
 have bb:wb.heap[w.heap.size+1]?=some (.map #[] 0):=by rw[Hb,<-sa];exact heap_alloc_new wa _
 have hk1:Kp none' wa wb:=by rw[Hb];exact Kp.alloc _ _ _
 generalize ho:Obj.cells #[.slice (some ⟨w.heap.size,0,none⟩) N N,.map (some (w.heap.size+1)),.int .i64 0,.bool false,.int .i64 0] 120=ob;have hk2:Kp none' wb (wb.alloc ob):=Kp.alloc _ _ _;have bc:(wb.alloc ob).heap[w.heap.size+2]?=some (.cells #[.slice (some ⟨w.heap.size,0,none⟩) N N,.map (some (w.heap.size+1)),.int .i64 0,.bool false,.int .i64 0] 120 (0,0)):=by rw[<-sb,ho];exact heap_alloc_new wb _
 have ba2:(wb.alloc ob).heap[w.heap.size]?=some (.cells (madeCells (bcs Al).toArray (N*64)) 177 (0,0)):=by
  rw[hk2.block _ (by omega) (fun h=>h),hk1.block _ (by omega) (fun h=>h)];exact ba
 have bb2:(wb.alloc ob).heap[w.heap.size+1]?=some (.map #[] 0):=by
  rw[hk2.block _ (by omega) (fun h=>h)];exact bb
 refine⟨by rw[cell_of_row _ _ _ _ _ _ bc];rfl,by rw[cell_of_row _ _ _ _ _ _ bc];rfl,by rw[cell_of_row _ _ _ _ _ _ bc];rfl,by rw[cell_of_row _ _ _ _ _ _ bc];rfl,by rw[cell_of_row _ _ _ _ _ _ bc];rfl,fun j=>?_,fun i hi=>?_,fun j hj=>?_,?_,⟨#[],0,bb2,Mp.nil 0⟩,
  by simp,by simp,by simp,hN,fun i _=>AO,fun i x hx=>by cases hx⟩
 ·unfold World.frozen?;rw[show (wb.alloc ob).heap[(⟨w.heap.size+2,j,none⟩:Addr).block]?=_ from bc];simp
 ·intro j v hv;have hj:j<64:=by have:=(List.getElem?_eq_some_iff.1 hv).1;rw[Bb]at this;simpa[fresh,AO]using this
  have hi':i<N:=hi;rw[cell_of_row _ _ _ _ _ _ ba2,KT N _ (by omega),<-hv];have:=JK Al j (by rw[AO];exact hj);show _=(bcs Al)[j]?;rw[this];have e0:Al[j]'(by rw[AO];exact hj)=0:=by unfold Al;exact List.getElem_replicate _
  rw[e0];rfl
 ·have hj':j<N*64:=hj;rw[Nat.zero_add,cell_of_row _ _ _ _ _ _ ba2,KT N j hj'];refine⟨rfl,?_⟩;unfold World.frozen?;rw[show (wb.alloc ob).heap[(⟨w.heap.size,j,none⟩:Addr).block]?=_ from ba2];simp
 ·show w.heap.size<_;have:=hk2.size;omega
def newN(n:Int):Nat:=(min (max n 0) 4096).toNat
set_option maxRecDepth 100000 in
theorem OC(n:Int)(w:World) :
  Calls prog 30 #[.int .i64 n] w fun e w'=>∃p:Dp,e=.returned (.pointer (some ⟨p.d,0,none⟩))/\Dev w' p (fresh (newN n))/\Kp none' w w'/\∀k,p.mem k->w.heap.size<=k:=by
 have hN:newN n<=4096:=by unfold newN;omega
 have hcl:(min (max n 0) 4096:Int)=(newN n:Int):=by unfold newN;omega
 obtain⟨i,hi,hz0,hz1,hz2⟩:=info_parts Nc;have hmk:=run_make (P:=prog) w 117 177 i _ underlying117 hi hz0 .i64 .i64 (newN n:Int) (newN n:Int) (by omega) (Int.le_refl _) (by rw[hz2];omega) (by omega);rw[hz1]at hmk;simp only[Int.toNat_natCast,Value.cells]at hmk;have hF:=LP w (newN n) hN;have hmm:=@run_makeMap prog;clear hi hz0 hz1 hz2 i;obtain⟨N,HN⟩:∃N,Hid (newN n=N):=⟨_,rfl⟩;rw[HN.out]at hmk hF hN hcl |-
 have hk:=((Kp.alloc none' w (.cells (madeCells (bcs Al).toArray (N*64)) 177)).then (Kp.alloc none' _ (.map #[] 0))).then (Kp.alloc none' _ (.cells #[.slice (some ⟨w.heap.size,0,none⟩) N N,.map (some (w.heap.size+1)),.int .i64 0,.bool false,.int .i64 0] 120));go_enter func30,ntmps30;go_upto_region 2 with fail;have eN:(if 4096<if n<0 then 0 else n then 4096 else if n<0 then 0 else n)=(N:Int):=by
  rw[<-hcl];by_cases h1:n<0
  ·simp only[h1,if_true];omega
  ·simp only[h1,if_false];split<;>omega
 rw[eN];clear hcl eN;generalize (if n<0 then 0 else n)=n1;go_wp2_with (refine Bu rfl (.tmp 6) (.tmp 6) 117 rfl _ _ rfl rfl hmk ?_);go_ret;exact⟨⟨w.heap.size+2,w.heap.size,w.heap.size+1⟩,rfl,hF,hk,fun k h=>by rcases h with rfl|rfl|rfl<;>simp⟩
end Go.Proofs.YtjojffepakclcaaGreatDoor
namespace Go.Proofs.YtjojffepakclcaaGreatDoor
open Go Go.RowKit
def Prs(B:Nat)(w:World)(v:Value)(l:List Pr):Prop :=
 ∃a c,v=.slice a l.length c/\l.length<=c/\c<=maxLen/\∀i (h:i<l.length),∃b off,a=some ⟨b,off,none⟩/\b<B /\
  w.cell? ⟨b,off+i*2,none⟩=some (.string l[i].k)/\w.cell? ⟨b,off+i*2+1,none⟩=some (.string l[i].v)
theorem Prs.nil(B:Nat)(w:World):Prs B w (.slice none 0 0) []:=⟨none,0,rfl,Nat.le_refl _,Nat.zero_le _,fun i h=>absurd h (by simp)⟩
theorem Prs.kept{B:Nat}{S:Nat->Prop}{w w':World}{v:Value}{l:List Pr}(h:Prs B w v l)(hk:Kp S w w')(hS:∀k,k<B->¬S k):Prs B w' v l:=by
 obtain⟨a,c,rfl,h1,h2,h3⟩:=h;refine⟨a,c,rfl,h1,h2,fun i hi=>?_⟩;obtain⟨b,off,rfl,hb,c0,c1⟩:=h3 i hi;exact⟨b,off,rfl,hb,hk.cell c0 (hS b hb),hk.cell c1 (hS b hb)⟩
theorem Prs.keptN{B:Nat}{w w':World}{v:Value}{l:List Pr}(h:Prs B w v l)(hk:Kp none' w w'):Prs B w' v l:=h.kept hk (fun _ _ h=>h)
theorem Prs.mono{B B':Nat}{w:World}{v:Value}{l:List Pr}(h:Prs B w v l)(hB:B<=B'):Prs B' w v l:=by
 obtain⟨a,c,rfl,h1,h2,h3⟩:=h;refine⟨a,c,rfl,h1,h2,fun i hi=>?_⟩;obtain⟨b,off,rfl,hb,c0⟩:=h3 i hi;exact⟨b,off,rfl,PW hb hB,c0⟩
theorem Sl.more{α:Type}{f:α->Value}{B B':Nat}{w:World}{v:Value}{l:List α}(h:Sl f B w v l)(hB:B<=B'):Sl f B' w v l:=by
 obtain⟨a,c,rfl,h1,h2,h3⟩:=h;refine⟨a,c,rfl,h1,h2,fun i hi=>?_⟩;obtain⟨b,off,rfl,hb,c0⟩:=h3 i hi;exact⟨b,off,rfl,PW hb hB,c0⟩
structure Nd.wf (n:Nd):Prop where
 p:∀x∈n.ps,x.k.size<=maxLen/\x.v.size<=maxLen
 k:∀x∈n.ks,x.size<=maxLen
 d:∀z∈n.kd,-9223372036854775808<=z/\z<9223372036854775808
structure Nv (B:Nat) (w:World) (x:Value) (n:Nd):Prop where
 is:∃pv kv dv,x=.agg #[.bool n.leaf,pv,kv,dv]/\Prs B w pv n.ps/\Sl Value.string B w kv n.ks/\Sl (Value.int .i64) B w dv n.kd
 wf:n.wf
theorem Nv.kept{B:Nat}{S:Nat->Prop}{w w':World}{x:Value}{n:Nd}(h:Nv B w x n)(hk:Kp S w w')(hS:∀k,k<B->¬S k):Nv B w' x n:=by
 obtain⟨pv,kv,dv,e,h1,h2,h3⟩:=h.is;exact⟨⟨pv,kv,dv,e,h1.kept hk hS,h2.kept hk hS,h3.kept hk hS⟩,h.wf⟩
theorem Nv.keptN{B:Nat}{w w':World}{x:Value}{n:Nd}(h:Nv B w x n)(hk:Kp none' w w'):Nv B w' x n:=h.kept hk (fun _ _ h=>h)
theorem Nv.more{B B':Nat}{w:World}{x:Value}{n:Nd}(h:Nv B w x n)(hB:B<=B'):Nv B' w x n:=by
 obtain⟨pv,kv,dv,e,h1,h2,h3⟩:=h.is;exact⟨⟨pv,kv,dv,e,h1.mono hB,h2.more hB,h3.more hB⟩,h.wf⟩
def Nb(w:World)(b:Nat)(l:Bool)(pv kv dv:Value):Prop:=w.heap[b]?=some (.cells #[.bool l,pv,kv,dv] 73 (0,0))
theorem Nb.c0{w:World}{b:Nat}{l:Bool}{pv kv dv:Value}(h:Nb w b l pv kv dv):w.cell? ⟨b,0,none⟩=some (.bool l):=by rw[cell_of_row w b 0 _ 73 (0,0) h];rfl
theorem Nb.c1{w:World}{b:Nat}{l:Bool}{pv kv dv:Value}(h:Nb w b l pv kv dv):w.cell? ⟨b,1,none⟩=some pv:=by rw[cell_of_row w b 1 _ 73 (0,0) h];rfl
theorem Nb.c2{w:World}{b:Nat}{l:Bool}{pv kv dv:Value}(h:Nb w b l pv kv dv):w.cell? ⟨b,2,none⟩=some kv:=by rw[cell_of_row w b 2 _ 73 (0,0) h];rfl
theorem Nb.c3{w:World}{b:Nat}{l:Bool}{pv kv dv:Value}(h:Nb w b l pv kv dv):w.cell? ⟨b,3,none⟩=some dv:=by rw[cell_of_row w b 3 _ 73 (0,0) h];rfl
theorem Nb.lt{w:World}{b:Nat}{l:Bool}{pv kv dv:Value}(h:Nb w b l pv kv dv):b<w.heap.size:=(Array.getElem?_eq_some_iff.1 h).1
theorem Nb.kept{w w':World}{b:Nat}{l:Bool}{pv kv dv:Value}{S:Nat->Prop}(h:Nb w b l pv kv dv)(hk:Kp S w w')(hS:¬S b):Nb w' b l pv kv dv:=by
 unfold Nb;rw[hk.block b h.lt hS];exact h
theorem Nb.new(w:World)(l:Bool)(pv kv dv:Value):Nb (w.alloc (.cells #[.bool l,pv,kv,dv] 73)) w.heap.size l pv kv dv:=heap_alloc_new w _
theorem GL(a b:ByteArray):(a.toList==b.toList)=decide (a=b):=by
 by_cases h:a=b
 ·subst h;simp
 ·have h':¬a.toList=b.toList:=by
   intro e;rw[ByteArray.toList_eq,ByteArray.toList_eq]at e;exact h (ByteArray.ext (Array.toList_inj.1 e))
  simp[h,h']
end Go.Proofs.YtjojffepakclcaaGreatDoor
