/- Part of the proof: contracts over the turned program. -/
import Derived.Sort.OwnSortedInts
import Derived.Test.YtgcgacjhkhjhmaaGreatDoorX18
import Derived.Test.YtgcgacjhkhjhmaaGreatDoorX8
import Derived.Test.YtgcgacjhkhjhmaaGreatDoorX2
set_option linter.unusedVariables false
set_option maxHeartbeats 4000000
open Go.Proofs.Tryz
namespace Go.Proofs.YtgcgacjhkhjhmaaGreatDoor
open Go.RowKit
def fillB(c:UInt8):ByteArray:=⟨(List.replicate 256 c).toArray⟩
theorem A8(c:UInt8):(fillB c).size=256:=by
 show (List.replicate 256 c).toArray.size=256;rw[List.size_toArray,List.length_replicate]
theorem MR{x y:ByteArray}(h:x.toList=y.toList):x=y:=by
 rw[ByteArray.toList_eq,ByteArray.toList_eq]at h;exact ByteArray.ext (Array.toList_inj.1 h)
theorem JJ{n:Nat}{D:Dv}{Q:Nat->ByteArray}(hu:∀k,D.u k=none)(hC:Clean n D.s Q)(hQ:∀p,(Q p).size=256)(p:Nat)(hp:p<n):lookS D (AC p)=Q p :=
 L5 (hQ p) (fun j hj=>by rw[KM hu];exact hC.2 p hp j hj)
theorem IB(n N:Nat):Clean n (fresh N).s (fun _=>fillB 0):=by
 refine⟨by kernel_rfl,fun p hp j hj=>?_⟩;show Al=secL (fillB 0) j;rw[Gx];show Al=((List.replicate 256 (0:UInt8)).drop (j*64)).take 64;rw[List.drop_replicate,List.take_replicate];unfold Al;congr 1;omega
theorem Pt{P:Program}(w:World)(t e:TypeId)(ht:P.underlying t=some (.slice e))(x y:Value)(hx:x.oneCell'=true)(hy:y.oneCell'=true)(g:Nat)(hg:w.heap.size=g):Src P 2 t (.slice (some ⟨g,0,none⟩) 1 1) 1 [x,y] (w.alloc (.cells #[x,y] e)):=by
 subst hg;refine Src.ofSlice (e':=e) _ ht ⟨w.heap.size,0,none⟩ 1 1 [x,y] (by simp) ?_ (by intro u hu;simp at hu;rcases hu with rfl|rfl<;>assumption);intro j u hj;match j,hj with
 | 0,hj=>simp at hj;subst hj;simp[Addr.add]
 | 1,hj=>simp at hj;subst hj;simp[Addr.add]
 | (j+2),hj=>simp at hj
theorem OwC.snoc{t:TypeId}{w:World}{base:Nat}{v:Value}{l:List Chg}{x:Chg}(h:w.ownsRow base t 2 v (l.length+1) (ccs l++[.int .i64 x.page,.string x.data])):OwC t w base v (l++[x]):=by
 unfold OwC;rw[JF,List.length_append];exact h
structure Rest (w:World) (p:Dp) (D:Dv) (n:Nat) (Q:Nat->ByteArray) (m:Int):Prop where
 hd:Dev w p D
 hn:D.n=126+4*n
 hu:∀k,D.u k=none
 hc:Clean n D.s Q
 c0:0<=D.c
 c1:D.c<=m
theorem kpN{S:Nat->Prop}{w w1 w2:World}(h:Kp none' w w1)(h':Kp S w1 w2)(hS:∀k,S k->w.heap.size<=k):Kp none' w w2:=h.trans h' (fun _ _ h=>h) (fun k hk hs=>absurd hk (by have:=hS k hs;omega))
theorem L8(n:Nat)(h:n<=160):newN (126+4*(n:Int))=126+4*n:=by unfold newN;omega
theorem I9{w:World}{p:Dp}{n:Nat}(h:n<=160)(hD:Dev w p (fresh (newN (126+4*(n:Int))))):Rest w p (fresh (126+4*n)) n (fun _=>fillB 0) 0:=by
 rw[L8 n h]at hD;exact⟨hD,rfl,fun _=>rfl,IB n _,Int.le_refl _,Int.le_refl _⟩
theorem Rest.keptN{w w':World}{p:Dp}{D:Dv}{n:Nat}{Q:Nat->ByteArray}{m:Int}(h:Rest w p D n Q m)(hk:Kp none' w w'):Rest w' p D n Q m:=⟨h.hd.keptN hk,h.hn,h.hu,h.hc,h.c0,h.c1⟩
theorem Mo{w:World}{p:Dp}{D:Dv}{n g k:Nat}{Q:Nat->ByteArray}{m c:Int}{bv:Value}(h:Rest w p D n Q m)(hn2:n<=160)(hQ:∀p,(Q p).size=256)(hP:Pag w g p n c bv [])(hk:k<n) :
  Calls prog 82 #[.pointer (some ⟨g,0,none⟩),.int .i64 k] w fun e w'=>e=.returned (.tuple #[.string (Q k),.int .i64 0])/\Kp none' w w':=by
 have hr:=Me g n k p D c bv [] w hP h.hd hk (by rw[h.hn];exact Nat.le_refl _) hn2 (by simp);rw[show rdP D [] k=lookS D (AC k) from rfl,JJ h.hu h.hc hQ k hk]at hr;exact hr
theorem Rest.kept{w w':World}{p:Dp}{D:Dv}{n:Nat}{Q:Nat->ByteArray}{m:Int}{S:Nat->Prop}(h:Rest w p D n Q m)(hk:Kp S w w')(hS:∀k,p.mem k->¬S k):Rest w' p D n Q m:=⟨h.hd.kept hk hS,h.hn,h.hu,h.hc,h.c0,h.c1⟩
end Go.Proofs.YtgcgacjhkhjhmaaGreatDoor
namespace Go.Proofs.YtgcgacjhkhjhmaaGreatDoor
def updN(f:Nat->Nat)(i x:Nat):Nat->Nat:=fun k=>if k=i then x else f k
theorem Az(f:Nat->Nat)(i x:Nat):updN f i x i=x:=by simp[updN]
theorem Bg{f:Nat->Nat}{i x k:Nat}(h:k≠i):updN f i x k=f k:=by simp[updN,h]
def Seg(be ah:Nat->Nat):Nat->List Nat->Nat->Prop
 | x,[],y=>be x=y/\ah y=x
 | x,a::l,y=>be x=a/\ah a=x/\Seg be ah a l y
theorem Seg.split{be ah:Nat->Nat}(q:List Nat)(a:Nat):∀(p:List Nat) (x y:Nat),Seg be ah x (p++a::q) y↔Seg be ah x p a/\Seg be ah a q y
 | [],x,y=>by simp[Seg,and_assoc]
 | b::p,x,y=>by simp[Seg,Seg.split q a p b y,and_assoc]
theorem Seg.same{be ah be' ah':Nat->Nat}:∀(l:List Nat) (x y:Nat),Seg be ah x l y->(∀z∈x::l,be' z=be z)->(∀z∈l++[y],ah' z=ah z)->Seg be' ah' x l y
 | [],x,y,h,h1,h2=>⟨by rw[h1 x (by simp)];exact h.1,by rw[h2 y (by simp)];exact h.2⟩
 | a::l,x,y,h,h1,h2=>⟨by rw[h1 x (by simp)];exact h.1,by rw[h2 a (by simp)];exact h.2.1,Seg.same l a y h.2.2 (fun z hz=>h1 z (List.mem_cons_of_mem _ hz)) (fun z hz=>h2 z (List.mem_cons_of_mem _ hz))⟩
theorem Seg.first{be ah:Nat->Nat}{x y:Nat}{l:List Nat}(h:Seg be ah x l y):be x∈l++[y]:=by
 cases l with
 | nil=>rw[h.1];simp
 | cons a l=>rw[h.1];simp
theorem Seg.last{be ah:Nat->Nat}:∀(l:List Nat) (x y:Nat),Seg be ah x l y->ah y∈x::l
 | [],x,y,h=>by rw[h.2];simp
 | a::l,x,y,h=>List.mem_cons_of_mem _ (Seg.last l a y h.2.2)
theorem Seg.leave{be ah:Nat->Nat}(x:Nat)(q:List Nat)(t:Nat)(h2:Seg be ah x q t):∀(p:List Nat) (s:Nat),Seg be ah s p x->(s::(p++x::q)).Nodup->(∀z∈p++x::q,z≠t) ->
  Seg (updN be (ah x) (be x)) (updN ah (be x) (ah x)) s (p++q) t
 | [],s,h,hn,ht=>by
  obtain⟨a1,a2⟩:=h
  rw[a2]
  cases q with
  | nil =>
   obtain⟨b1,b2⟩:=h2
   exact⟨by rw[Az,b1],by rw[b1,Az]⟩
  | cons b q =>
   obtain⟨b1,b2,b3⟩:=h2
   rw[b1]
   refine⟨Az _ _ _,Az _ _ _,b3.same _ _ _ (fun z hz=>Bg ?_) (fun z hz=>Bg ?_)⟩
   ·rintro rfl
    simp at hn hz
    rcases hz with rfl|hz
    ·exact hn.1.2.1 rfl
    ·exact hn.1.2.2 hz
   ·rintro rfl
    simp at hn hz ht
    rcases hz with hz|rfl
    ·exact hn.2.2.1 hz
    ·exact ht.2.1 rfl
 | a::p,s,h,hn,ht=>by
  obtain⟨b1,b2,b3⟩:=h
  have hn':(a::(p++x::q)).Nodup:=by
   have:=List.nodup_cons.1 hn;exact this.2
  have ih:=Seg.leave x q t h2 p a b3 hn' (fun z hz=>ht z (List.mem_cons_of_mem _ hz));have l1:=Seg.last p a x b3;have l2:=Seg.first h2
  refine⟨?_,?_,ih⟩
  ·rw[Bg]
   ·exact b1
   ·rintro rfl;have:=(List.nodup_cons.1 hn).1;exact this (by
     rcases List.mem_cons.1 l1 with e|e
     ·exact e▸List.mem_cons_self
     ·exact List.mem_cons_of_mem _ (List.mem_append.2 (.inl e)))
  ·rw[Bg]
   ·exact b2
   ·rintro rfl;rcases List.mem_append.1 l2 with e|e
    ·have:=(List.nodup_cons.1 hn').1;exact this (List.mem_append.2 (.inr (List.mem_cons_of_mem _ e)))
    ·exact ht (be x) (by simp) (by simpa using e)
theorem Seg.join{be ah:Nat->Nat}{s x:Nat}{l:List Nat}(h:Seg be ah s l s)(hx:x ∉ s::l)(hs:s ∉ l)(hn:l.Nodup) :
  Seg (updN (updN be x (be s)) s x) (updN (updN ah x s) (be s) x) s (x::l) s:=by
 have hsx:x≠s:=fun e=>hx (by rw[e];simp);cases l with
 | nil =>
  obtain⟨b1,b2⟩:=h;rw[b1];exact⟨Az _ _ _,by rw[Bg hsx,Az],by rw[Bg hsx,Az],Az _ _ _⟩
 | cons b l =>
  obtain⟨b1,b2,b3⟩:=h;rw[b1];simp at hx hs hn;refine⟨Az _ _ _,by rw[Bg hx.2.1,Az],by rw[Bg hsx,Az],Az _ _ _,b3.same _ _ _ (fun z hz=>?_) (fun z hz=>?_)⟩
  ·rw[Bg,Bg]
   ·rintro rfl;simp at hz;rcases hz with rfl|hz
    ·exact hx.2.1 rfl
    ·exact hx.2.2 hz
   ·rintro rfl;simp at hz;rcases hz with rfl|hz
    ·exact hs.1 rfl
    ·exact hs.2 hz
  ·rw[Bg,Bg]
   ·rintro rfl;simp at hz;rcases hz with hz|rfl
    ·exact hx.2.2 hz
    ·exact hsx rfl
   ·rintro rfl;simp at hz;rcases hz with hz|rfl
    ·exact hn.1 hz
    ·exact hs.1 rfl
theorem Seg.back{be ah:Nat->Nat}{x y a:Nat}{l:List Nat}(h:Seg be ah x (l++[a]) y):ah y=a:=by
 rw[Seg.split]at h;exact h.2.2
def use(sz:Nat)(K:List Int)(n:Int):List Int:=if n∈K then n::K.erase n else (n::K).take sz
end Go.Proofs.YtgcgacjhkhjhmaaGreatDoor
namespace Go.Proofs.YtgcgacjhkhjhmaaGreatDoor
open Go.RowKit
def Cb(w:World)(k:Nat):Prop:=∃cs t,w.heap[k]?=some (.cells cs t (0,0))
theorem Cb.lt{w:World}{k:Nat}(h:Cb w k):k<w.heap.size:=by
 obtain⟨cs,t,h⟩:=h;exact(Array.getElem?_eq_some_iff.1 h).1
theorem Cb.kept{w w':World}{k:Nat}{S:Nat->Prop}(h:Cb w k)(hk:Kp S w w')(hS:¬S k):Cb w' k:=by
 have hl:=h.lt;obtain⟨cs,t,h⟩:=h;exact⟨cs,t,by rw[hk.block k hl hS];exact h⟩
theorem Cb.set{w:World}{k:Nat}(h:Cb w k)(b o:Nat)(u:Value):Cb (w.setCell ⟨b,o,none⟩ u) k:=by
 obtain⟨cs,t,h⟩:=h;by_cases e:k=b
 ·subst e;exact⟨_,_,heap_setCell_same w k o cs t u h⟩
 ·exact⟨cs,t,by rw[heap_setCell_other w _ k u e];exact h⟩
structure Put (w w':World) (b o:Nat) (u:Value):Prop where
 same:w'.cell? ⟨b,o,none⟩=some u
 old:∀k j,(k≠b\/j≠o)->w'.cell? ⟨k,j,none⟩=w.cell? ⟨k,j,none⟩
 fr:∀k j,w'.frozen? ⟨k,j,none⟩=w.frozen? ⟨k,j,none⟩
 kp:Kp (only b) w w'
 sz:w'.heap.size=w.heap.size
 bl:∀k,Cb w k->Cb w' k
theorem Put.set(w:World)(b o:Nat)(u x:Value)(h:w.cell? ⟨b,o,none⟩=some x):Put w (w.setCell ⟨b,o,none⟩ u) b o u :=
 ⟨World.cell?_setCell_same _ _ _ h,fun k j hk=>by
  rw[World.cell?_setCell_other (h:=fun e=>by
   have e1:=congrArg Addr.block e
   have e2:=congrArg Addr.off e
   simp at e1 e2
   omega)],fun k j=>by rw[World.frozen?_setCell],Kp.setCell _ _ _ _ rfl,by simp,fun k h=>h.set b o u⟩
theorem Put.drew{w w':World}{b o:Nat}{u:Value}(h:Put w w' b o u):Put w w'.drew b o u:=⟨h.same,h.old,h.fr,h.kp.thenN (Kp.drew _ _),h.sz,h.bl⟩
theorem Am(w:World)(cs:Array Value)(t:TypeId)(j:Nat)(v:Value)(h:cs[j]?=some v):(w.alloc (.cells cs t)).cell? ⟨w.heap.size,j,none⟩=some v:=by
 have hb:(w.alloc (.cells cs t)).heap[w.heap.size]?=some (.cells cs t (0,0)):=heap_alloc_new w _;rw[cell_of_row _ _ _ _ _ _ hb];exact h
theorem Cy(w:World)(cs:Array Value)(t:TypeId)(j:Nat):(w.alloc (.cells cs t)).frozen? ⟨w.heap.size,j,none⟩=false:=by
 have hb:(w.alloc (.cells cs t)).heap[w.heap.size]?=some (.cells cs t (0,0)):=heap_alloc_new w _;unfold World.frozen?;rw[show (w.alloc (.cells cs t)).heap[(⟨w.heap.size,j,none⟩:Addr).block]?=_ from hb];simp
structure Lk (w:World) (x:Nat) (n:Int) (d:ByteArray) (a b:Nat):Prop where
 c0:w.cell? ⟨x,0,none⟩=some (.int .i64 n)
 c1:w.cell? ⟨x,1,none⟩=some (.string d)
 c2:w.cell? ⟨x,2,none⟩=some (.pointer (some ⟨a,0,none⟩))
 c3:w.cell? ⟨x,3,none⟩=some (.pointer (some ⟨b,0,none⟩))
 fr:∀j,w.frozen? ⟨x,j,none⟩=false
 bl:Cb w x
theorem Lk.lt{w:World}{x:Nat}{n:Int}{d:ByteArray}{a b:Nat}(h:Lk w x n d a b):x<w.heap.size:=lt_of_cell h.c0
theorem Lk.kept{w w':World}{x:Nat}{n:Int}{d:ByteArray}{a b:Nat}{S:Nat->Prop}(h:Lk w x n d a b)(hk:Kp S w w')(hx:¬S x):Lk w' x n d a b :=
 ⟨hk.cell h.c0 hx,hk.cell h.c1 hx,hk.cell h.c2 hx,hk.cell h.c3 hx,fun j=>by rw[hk.frozen h.lt hx];exact h.fr j,h.bl.kept hk hx⟩
def RM(w:World)(B:List Nat)(N:Nat->Int)(D:Nat->ByteArray)(ah be:Nat->Nat):Prop:=∀x∈B,Lk w x (N x) (D x) (ah x) (be x)
theorem RM.kept{w w':World}{B:List Nat}{N:Nat->Int}{D:Nat->ByteArray}{ah be:Nat->Nat}{S:Nat->Prop}(h:RM w B N D ah be)(hk:Kp S w w')(hS:∀x∈B,¬S x):RM w' B N D ah be:=fun x hx=>(h x hx).kept hk (hS x hx)
theorem RM.sub{w:World}{B C:List Nat}{N:Nat->Int}{D:Nat->ByteArray}{ah be:Nat->Nat}(h:RM w B N D ah be)(hC:∀x∈C,x∈B):RM w C N D ah be:=fun x hx=>h x (hC x hx)
theorem RM.putB{w w':World}{B:List Nat}{N:Nat->Int}{D:Nat->ByteArray}{ah be:Nat->Nat}(h:RM w B N D ah be){a b:Nat}(hp:Put w w' a 3 (.pointer (some ⟨b,0,none⟩))):RM w' B N D ah (updN be a b):=fun x hx=>by
 have q:=h x hx
 refine⟨by rw[hp.old _ _ (.inr (by omega))];exact q.c0,by rw[hp.old _ _ (.inr (by omega))];exact q.c1,by rw[hp.old _ _ (.inr (by omega))];exact q.c2,?_,fun j=>by rw[hp.fr];exact q.fr j,hp.bl _ q.bl⟩
 by_cases e:x=a
 ·subst e;rw[Az];exact hp.same
 ·rw[Bg e,hp.old _ _ (.inl e)];exact q.c3
theorem RM.putA{w w':World}{B:List Nat}{N:Nat->Int}{D:Nat->ByteArray}{ah be:Nat->Nat}(h:RM w B N D ah be){a b:Nat}(hp:Put w w' a 2 (.pointer (some ⟨b,0,none⟩))):RM w' B N D (updN ah a b) be:=fun x hx=>by
 have q:=h x hx
 refine⟨by rw[hp.old _ _ (.inr (by omega))];exact q.c0,by rw[hp.old _ _ (.inr (by omega))];exact q.c1,?_,by rw[hp.old _ _ (.inr (by omega))];exact q.c3,fun j=>by rw[hp.fr];exact q.fr j,hp.bl _ q.bl⟩
 by_cases e:x=a
 ·subst e;rw[Az];exact hp.same
 ·rw[Bg e,hp.old _ _ (.inl e)];exact q.c2
set_option maxRecDepth 100000 in
theorem J7(x a b:Nat)(w:World)(va vb:Value)(h2:w.cell? ⟨x,2,none⟩=some (.pointer (some ⟨a,0,none⟩)))(h3:w.cell? ⟨x,3,none⟩=some (.pointer (some ⟨b,0,none⟩)))
  (ha:w.cell? ⟨a,3,none⟩=some va) (hfa:w.frozen? ⟨a,3,none⟩=false) (hb:w.cell? ⟨b,2,none⟩=some vb) (hfb:w.frozen? ⟨b,2,none⟩=false) :
  Calls prog 117 #[.pointer (some ⟨x,0,none⟩)] w fun e w'=>e=.returned (.tuple #[])/\∃w1,Put w w1 a 3 (.pointer (some ⟨b,0,none⟩))/\Put w1 w' b 2 (.pointer (some ⟨a,0,none⟩)):=by
 have p1:=Put.set w a 3 (.pointer (some ⟨b,0,none⟩)) va ha;have hb1:(w.setCell ⟨a,3,none⟩ (.pointer (some ⟨b,0,none⟩))).cell? ⟨b,2,none⟩=some vb:=by rw[p1.old _ _ (.inr (by omega))];exact hb
 have hf1:(w.setCell ⟨a,3,none⟩ (.pointer (some ⟨b,0,none⟩))).frozen? ⟨b,2,none⟩=false:=by rw[p1.fr];exact hfb
 go_enter func117,ntmps117;go_region;all_goals go_wp2
 all_goals first|go_end0|((try simp only[Exit.inBlock,Exit.then]);refine bodyPost_ret (results_none rfl _ _ _) rfl ?_)
 all_goals exact⟨rfl,_,p1,(Put.set _ b 2 _ vb hb1).drew⟩
set_option maxRecDepth 100000 in
theorem L1(s x b:Nat)(w:World)(v2 v3 vb:Value)(hs:w.cell? ⟨s,3,none⟩=some (.pointer (some ⟨b,0,none⟩)))(hfs:w.frozen? ⟨s,3,none⟩=false)
  (h2:w.cell? ⟨x,2,none⟩=some v2) (hf2:w.frozen? ⟨x,2,none⟩=false) (h3:w.cell? ⟨x,3,none⟩=some v3) (hf3:w.frozen? ⟨x,3,none⟩=false)
  (hb:w.cell? ⟨b,2,none⟩=some vb) (hfb:w.frozen? ⟨b,2,none⟩=false) (hxs:x≠s) (hxb:x≠b) :
  Calls prog 118 #[.agg #[.pointer (some ⟨s,0,none⟩)],.pointer (some ⟨x,0,none⟩)] w fun e w'=>e=.returned (.tuple #[])/\∃w0 w1 w2 w3,Kp none' w w0/\Put w0 w1 x 2 (.pointer (some ⟨s,0,none⟩))/\Put w1 w2 x 3 (.pointer (some ⟨b,0,none⟩)) /\
   Put w2 w3 s 3 (.pointer (some ⟨x,0,none⟩))/\Put w3 w' b 2 (.pointer (some ⟨x,0,none⟩)):=by
 have hk:=Kp.alloc none' w (.cells #[.pointer (some ⟨s,0,none⟩)] 105);obtain⟨g,HG⟩:∃g,Hid (w.heap.size=g):=⟨_,rfl⟩;have hg:(w.alloc (.cells #[.pointer (some ⟨s,0,none⟩)] 105)).cell? ⟨g,0,none⟩=some (.pointer (some ⟨s,0,none⟩)):=by rw[<-HG.out];exact Am _ _ _ _ _ rfl
 go_enter func118,ntmps118;go_upto_region 1 with fail;obtain⟨W,HW⟩:∃W,Hid (w.alloc (.cells #[.pointer (some ⟨s,0,none⟩)] 105)=W):=⟨_,rfl⟩;rw[HW.out]at hk hg |-;rw[HG.out];have fz:∀{q j:Nat} {y:Value},w.cell? ⟨q,j,none⟩=some y->w.frozen? ⟨q,j,none⟩=false->W.frozen? ⟨q,j,none⟩=false:=fun hc hf=>by rw[hk.frozen (lt_of_cell hc) (fun h=>h)];exact hf
 have qs:=hk.cell hs (fun h=>h);have fs:=fz hs hfs;have q2:=hk.cell h2 (fun h=>h);have f2:=fz h2 hf2;have q3:=hk.cell h3 (fun h=>h);have f3:=fz h3 hf3;have qb:=hk.cell hb (fun h=>h);have fb:=fz hb hfb;clear fz hs hfs h2 hf2 h3 hf3 hb hfb;have p1:=Put.set W x 2 (.pointer (some ⟨s,0,none⟩)) v2 q2;have q3':(W.setCell ⟨x,2,none⟩ (.pointer (some ⟨s,0,none⟩))).cell? ⟨x,3,none⟩=some v3:=by rw[p1.old _ _ (.inr (by omega))];exact q3
 have f3':(W.setCell ⟨x,2,none⟩ (.pointer (some ⟨s,0,none⟩))).frozen? ⟨x,3,none⟩=false:=by rw[p1.fr];exact f3
 have p2:=(Put.set (W.setCell ⟨x,2,none⟩ (.pointer (some ⟨s,0,none⟩))) x 3 (.pointer (some ⟨b,0,none⟩)) v3 q3').drew;go_region;all_goals (
  obtain⟨W2,H2⟩:∃W2,Hid (((W.setCell ⟨x,2,none⟩ (.pointer (some ⟨s,0,none⟩))).setCell ⟨x,3,none⟩ (.pointer (some ⟨b,0,none⟩))).drew=W2):=⟨_,rfl⟩;rw[H2.out]at p2 |-;have r2:W2.cell? ⟨x,2,none⟩=some (.pointer (some ⟨s,0,none⟩)):=by rw[p2.old _ _ (.inr (by omega))];exact p1.same
  have r3:=p2.same;have rs:W2.cell? ⟨s,3,none⟩=some (.pointer (some ⟨b,0,none⟩)):=by rw[p2.old _ _ (.inl (Ne.symm hxs)),p1.old _ _ (.inl (Ne.symm hxs))];exact qs
  have es:W2.frozen? ⟨s,3,none⟩=false:=by rw[p2.fr,p1.fr];exact fs
  have rb:W2.cell? ⟨b,2,none⟩=some vb:=by rw[p2.old _ _ (.inl (Ne.symm hxb)),p1.old _ _ (.inl (Ne.symm hxb))];exact qb
  have eb:W2.frozen? ⟨b,2,none⟩=false:=by rw[p2.fr,p1.fr];exact fb
  have p3:=Put.set W2 s 3 (.pointer (some ⟨x,0,none⟩)) _ rs;have rb':(W2.setCell ⟨s,3,none⟩ (.pointer (some ⟨x,0,none⟩))).cell? ⟨b,2,none⟩=some vb:=by rw[p3.old _ _ (.inr (by omega))];exact rb
  have eb':(W2.setCell ⟨s,3,none⟩ (.pointer (some ⟨x,0,none⟩))).frozen? ⟨b,2,none⟩=false:=by rw[p3.fr];exact eb
  go_wp2;go_region;all_goals go_wp2
  all_goals first|go_end0|((try simp only[Exit.inBlock,Exit.then]);refine bodyPost_ret (results_none rfl _ _ _) rfl ?_)
  all_goals exact⟨rfl,W,_,W2,_,hk,p1,p2,p3,(Put.set _ b 2 _ vb rb').drew⟩)
structure Ring (w:World) (s:Nat) (L:List Nat) (N:Nat->Int) (D:Nat->ByteArray) (ah be:Nat->Nat):Prop where
 rm:RM w (s::L) N D ah be
 sg:Seg be ah s L s
 nd:(s::L).Nodup
theorem Ring.kept{w w':World}{s:Nat}{L:List Nat}{N:Nat->Int}{D:Nat->ByteArray}{ah be:Nat->Nat}{S:Nat->Prop}(h:Ring w s L N D ah be)(hk:Kp S w w')(hS:∀x∈s::L,¬S x):Ring w' s L N D ah be:=⟨h.rm.kept hk hS,h.sg,h.nd⟩
theorem Fm{w:World}{s x:Nat}{p q:List Nat}{N:Nat->Int}{D:Nat->ByteArray}{ah be:Nat->Nat}(h:Ring w s (p++x::q) N D ah be) :
  Calls prog 117 #[.pointer (some ⟨x,0,none⟩)] w fun e w'=>e=.returned (.tuple #[])/\∃ah' be',Ring w' s (p++q) N D ah' be'/\Lk w' x (N x) (D x) (ah x) (be x)/\Kp (fun k=>k∈s::(p++q)) w w'/\w'.heap.size=w.heap.size:=by
 have hx:=h.rm x (by simp);have hs:=(Seg.split q x p s s).1 h.sg;have la:=Seg.last p s x hs.1;have fb:=Seg.first hs.2
 have ma:ah x∈s::(p++q):=by
  rcases List.mem_cons.1 la with e|e
  ·rw[e];exact List.mem_cons_self
  ·exact List.mem_cons_of_mem _ (List.mem_append.2 (.inl e))
 have mb:be x∈s::(p++q):=by
  rcases List.mem_append.1 fb with e|e
  ·exact List.mem_cons_of_mem _ (List.mem_append.2 (.inr e))
  ·have e':be x=s:=by simpa using e
   rw[e'];exact List.mem_cons_self
 have sub:∀z∈s::(p++q),z∈s::(p++x::q):=fun z hz=>by
  simp only[List.mem_cons,List.mem_append]at hz |-;rcases hz with e|e|e
  ·exact .inl e
  ·exact .inr (.inl e)
  ·exact .inr (.inr (.inr e))
 have hnx:x ∉ s::(p++q):=by
  intro hz;have hn:=h.nd;simp only[List.nodup_cons,List.nodup_append,List.mem_append,List.mem_cons]at hn hz;rcases hz with e|e|e
  ·exact hn.1 (.inr (.inl e.symm))
  ·exact hn.2.2.2 x e x (.inl rfl) rfl
  ·exact hn.2.2.1.1 e
 have ka:=h.rm _ (sub _ ma);have kb:=h.rm _ (sub _ mb);refine(J7 x (ah x) (be x) w _ _ hx.c2 hx.c3 ka.c3 (ka.fr 3) kb.c2 (kb.fr 2)).mono ?_;rintro e w' ⟨rfl,w1,p1,p2⟩;have hst:∀z∈p++x::q,z≠s:=fun z hz e=>by
  have:=(List.nodup_cons.1 h.nd).1;rw[e]at hz;exact this hz
 have hk:Kp (fun k=>k∈s::(p++q)) w w':=p1.kp.trans p2.kp (fun k _ e=>by rw[show k=ah x from e];exact ma) (fun k _ e=>by rw[show k=be x from e];exact mb);refine⟨rfl,_,_,⟨(h.rm.sub sub).putB p1 |>.putA p2,Seg.leave x q s hs.2 p s hs.1 h.nd hst,?_⟩,hx.kept hk hnx,hk,by rw[p2.sz,p1.sz]⟩;exact h.nd.sublist (List.Sublist.cons_cons _ (List.Sublist.append (List.Sublist.refl _) (List.sublist_cons_self _ _)))
theorem Fg{w:World}{s x:Nat}{L:List Nat}{N:Nat->Int}{D:Nat->ByteArray}{ah be:Nat->Nat}(h:Ring w s L N D ah be)(c0:w.cell? ⟨x,0,none⟩=some (.int .i64 (N x)))(c1:w.cell? ⟨x,1,none⟩=some (.string (D x)))
  {v2 v3:Value} (c2:w.cell? ⟨x,2,none⟩=some v2) (c3:w.cell? ⟨x,3,none⟩=some v3) (cf:∀j,w.frozen? ⟨x,j,none⟩=false) (cb:Cb w x) (hn:x ∉ s::L) :
  Calls prog 118 #[.agg #[.pointer (some ⟨s,0,none⟩)],.pointer (some ⟨x,0,none⟩)] w fun e w'=>e=.returned (.tuple #[])/\∃ah' be',Ring w' s (x::L) N D ah' be'/\Kp (fun k=>k∈s::x::L) w w':=by
 have hs:=h.rm s (by simp);have mb:be s∈s::L:=by
  rcases List.mem_append.1 (Seg.first h.sg)with e|e
  ·exact List.mem_cons_of_mem _ e
  ·have e':be s=s:=by simpa using e
   rw[e'];exact List.mem_cons_self
 have kb:=h.rm _ mb;have hxs:x≠s:=fun e=>hn (by rw[e];exact List.mem_cons_self);have hxb:x≠be s:=fun e=>hn (by rw[e];exact mb);refine(L1 s x (be s) w _ _ _ hs.c3 (hs.fr 3) c2 (cf 2) c3 (cf 3) kb.c2 (kb.fr 2) hxs hxb).mono ?_;rintro e w' ⟨rfl,w0,w1,w2,w3,hk,p1,p2,p3,p4⟩;have hnd:=List.nodup_cons.1 h.nd;have r2:=((h.rm.kept hk (fun _ _ h=>h)).putA p1).putB p2
 have hx2:Lk w2 x (N x) (D x) s (be s):=⟨by rw[p2.old _ _ (.inr (by omega)),p1.old _ _ (.inr (by omega))];exact hk.cell c0 (fun h=>h),by rw[p2.old _ _ (.inr (by omega)),p1.old _ _ (.inr (by omega))];exact hk.cell c1 (fun h=>h),
  by rw[p2.old _ _ (.inr (by omega))];exact p1.same,p2.same,fun j=>by rw[p2.fr,p1.fr,hk.frozen (lt_of_cell c0) (fun h=>h)];exact cf j,p2.bl _ (p1.bl _ (cb.kept hk (fun h=>h)))⟩
 have all:RM w2 (s::x::L) N D (updN ah x s) (updN be x (be s)):=fun z hz=>by
  by_cases e:z=x
  ·subst e;rw[Az,Az];exact hx2
  ·refine r2 z ?_;simp only[List.mem_cons]at hz |-;rcases hz with h1|h1|h1
   ·exact .inl h1
   ·exact absurd h1 e
   ·exact .inr h1
 refine⟨rfl,_,_,⟨(all.putB p3).putA p4,Seg.join h.sg hn hnd.1 hnd.2,?_⟩,?_⟩
 ·simp only[List.nodup_cons,List.mem_cons,not_or]at hnd hn |-;exact⟨⟨Ne.symm hxs,hnd.1⟩,hn.2,hnd.2⟩
 ·have m1:x∈s::x::L:=by simp
  have m2:s∈s::x::L:=by simp
  have m3:be s∈s::x::L:=by
   simp only[List.mem_cons]at mb |-;rcases mb with h1|h1
   ·exact .inl h1
   ·exact .inr (.inr h1)
  exact(((hk.mono (fun _ _ h=>h.elim)).then (p1.kp.mono (fun k _ e=>by rw[show k=x from e];exact m1))).then (p2.kp.mono (fun k _ e=>by rw[show k=x from e];exact m1))).then (p3.kp.mono (fun k _ e=>by rw[show k=s from e];exact m2)) |>.then (p4.kp.mono (fun k _ e=>by rw[show k=be s from e];exact m3))
theorem LX{w:World}{s x a b:Nat}{L:List Nat}{N:Nat->Int}{D:Nat->ByteArray}{ah be:Nat->Nat}(h:Ring w s L N D ah be)(hx:Lk w x (N x) (D x) a b)(hn:x ∉ s::L) :
  Calls prog 118 #[.agg #[.pointer (some ⟨s,0,none⟩)],.pointer (some ⟨x,0,none⟩)] w fun e w'=>e=.returned (.tuple #[])/\∃ah' be',Ring w' s (x::L) N D ah' be'/\Kp (fun k=>k∈s::x::L) w w':=Fg h hx.c0 hx.c1 hx.c2 hx.c3 hx.fr hx.bl hn
set_option maxRecDepth 100000 in
theorem L4(s a:Nat)(w:World)(h2:w.cell? ⟨s,2,none⟩=some (.pointer (some ⟨a,0,none⟩))) :
  Calls prog 149 #[.agg #[.pointer (some ⟨s,0,none⟩)]] w fun e w'=>e=.returned (.pointer (some ⟨a,0,none⟩))/\Kp none' w w':=by
 have hk:=Kp.alloc none' w (.cells #[.pointer (some ⟨s,0,none⟩)] 105);have hg:=Am w #[.pointer (some ⟨s,0,none⟩)] 105 0 _ rfl;have h2':=hk.cell h2 (fun h=>h);go_enter func149,ntmps149;go_wp2;go_ret;exact⟨rfl,hk⟩
theorem LY{w:World}{s x:Nat}{L:List Nat}{N:Nat->Int}{D:Nat->ByteArray}{ah be:Nat->Nat}(h:Ring w s (L++[x]) N D ah be) :
  Calls prog 149 #[.agg #[.pointer (some ⟨s,0,none⟩)]] w fun e w'=>e=.returned (.pointer (some ⟨x,0,none⟩))/\Kp none' w w':=by
 have:=(h.rm s (by simp)).c2;rw[Seg.back h.sg]at this;exact L4 s x w this
def updF'{α:Type}(f:Nat->α)(i:Nat)(x:α):Nat->α:=fun k=>if k=i then x else f k
theorem RM.congr{w:World}{B:List Nat}{N N':Nat->Int}{D D':Nat->ByteArray}{ah be:Nat->Nat}(h:RM w B N D ah be)(hN:∀x∈B,N' x=N x)(hD:∀x∈B,D' x=D x):RM w B N' D' ah be:=fun x hx=>by
 rw[hN x hx,hD x hx];exact h x hx
set_option maxRecDepth 100000 in
theorem Oe{w:World}{s:Nat}{L:List Nat}{N:Nat->Int}{D:Nat->ByteArray}{ah be:Nat->Nat}(n:Int)(d:ByteArray)(h:Ring w s L N D ah be) :
  Calls prog 120 #[.agg #[.pointer (some ⟨s,0,none⟩)],.agg #[.int .i64 n,.string d]] w fun e w'=>∃x ah' be',e=.returned (.pointer (some ⟨x,0,none⟩))/\w.heap.size<=x/\Ring w' s (x::L) (updF' N x n) (updF' D x d) ah' be'/\Kp (fun k=>k∈s::L) w w':=by
 have k1:=Kp.alloc none' w (.cells #[.pointer (some ⟨s,0,none⟩)] 105);have r1:=Am w #[.pointer (some ⟨s,0,none⟩)] 105 0 _ rfl;have e1:(w.alloc (.cells #[.pointer (some ⟨s,0,none⟩)] 105)).heap.size=w.heap.size+1:=by simp
 obtain⟨W1,H1⟩:∃W1,Hid (w.alloc (.cells #[.pointer (some ⟨s,0,none⟩)] 105)=W1):=⟨_,rfl⟩;rw[H1.out]at k1 r1 e1;have k2:=Kp.alloc none' W1 (.cells #[.int .i64 n,.string d] 108);have e2:(W1.alloc (.cells #[.int .i64 n,.string d] 108)).heap.size=w.heap.size+1+1:=by simp[e1]
 obtain⟨W2,H2⟩:∃W2,Hid (W1.alloc (.cells #[.int .i64 n,.string d] 108)=W2):=⟨_,rfl⟩;rw[H2.out]at k2 e2;have k3:=Kp.alloc none' W2 (.cells #[.int .i64 n,.string d,.pointer none,.pointer none] 157);have c0:=Am W2 #[.int .i64 n,.string d,.pointer none,.pointer none] 157 0 _ rfl;have c1:=Am W2 #[.int .i64 n,.string d,.pointer none,.pointer none] 157 1 _ rfl;have c2:=Am W2 #[.int .i64 n,.string d,.pointer none,.pointer none] 157 2 _ rfl
 have c3:=Am W2 #[.int .i64 n,.string d,.pointer none,.pointer none] 157 3 _ rfl;have cf:=Cy W2 #[.int .i64 n,.string d,.pointer none,.pointer none] 157;have cb:Cb (W2.alloc (.cells #[.int .i64 n,.string d,.pointer none,.pointer none] 157)) W2.heap.size:=⟨_,_,heap_alloc_new W2 _⟩;rw[e2]at c0 c1 c2 c3 cf cb;obtain⟨x,HX⟩:∃x,Hid (w.heap.size+1+1=x):=⟨_,rfl⟩;rw[HX.out]at c0 c1 c2 c3 cf cb
 obtain⟨W3,H3⟩:∃W3,Hid (W2.alloc (.cells #[.int .i64 n,.string d,.pointer none,.pointer none] 157)=W3):=⟨_,rfl⟩;rw[H3.out]at k3 c0 c1 c2 c3 cf cb;have kw:=(k1.then k2).then k3;have hx:w.heap.size<=x:=by have:=HX.out;omega
 have hxl:x ∉ s::L:=fun hm=>by
  have:=(h.rm x hm).lt;omega
 have r1':=(k2.then k3).cell r1 (fun h=>h);have hR:=h.kept kw (fun _ _ h=>h);have hN:∀z∈s::L,updF' N x n z=N z:=fun z hz=>by unfold updF';rw[if_neg (fun e=>hxl (by rw[<-e];exact hz))]
 have hD:∀z∈s::L,updF' D x d z=D z:=fun z hz=>by unfold updF';rw[if_neg (fun e=>hxl (by rw[<-e];exact hz))]
 have hR':Ring W3 s L (updF' N x n) (updF' D x d) ah be:=⟨hR.rm.congr hN hD,hR.sg,hR.nd⟩;have hj:=Fg hR' (by show W3.cell? ⟨x,0,none⟩=_;rw[c0];simp[updF']) (by rw[c1];simp[updF']) c2 c3 cf cb hxl;go_enter func120,ntmps120;go_upto_region 2 with fail;rw[H1.out,H2.out,H3.out,HX.out];go_wp2_with (first
  | (go_at_call 118;refine hj.mono ?_;rintro e w4 ⟨rfl,ah4,be4,hR4,hk4⟩)
  | fail)
 go_ret;exact⟨x,ah4,be4,rfl,hx,hR4,kw.trans hk4 (fun _ _ h=>h.elim) (fun k hk hm=>by
  simp only[List.mem_cons]at hm |-;rcases hm with e|e|e
  ·exact .inl e
  ·omega
  ·exact .inr e)⟩
theorem Hw{fn:Func}{p:Tmp}(h:fn.results=#[.cell p 105])(tmps:Array Value)(g:Nat)(W:World)(s:Nat)(hp:tmps.getD p undef=.pointer (some ⟨g,0,none⟩))(hb:W.heap[g]?=some (.cells #[.pointer (some ⟨s,0,none⟩)] 105 (0,0))) :
  (results fn tmps).run prog W=.ok (.agg #[.pointer (some ⟨s,0,none⟩)]) W:=by
 exact results_cell_row h tmps W g _ _ _ _ hp hb underlying105 rfl (by kernel_rfl)
set_option maxRecDepth 100000 in
theorem IS(w:World) :
  Calls prog 44 #[] w fun e w'=>∃s,e=.returned (.agg #[.pointer (some ⟨s,0,none⟩)])/\w.heap.size<=s/\Ring w' s [] (fun _=>0) (fun _=>⟨#[]⟩) (fun _=>s) (fun _=>s)/\Kp none' w w':=by
 go_enter func44,ntmps44;go_wp2;have k1:=Kp.alloc none' w (.cells #[.pointer (some ⟨w.heap.size+1,0,none⟩)] 105);have r1:(w.alloc (.cells #[.pointer (some ⟨w.heap.size+1,0,none⟩)] 105)).heap[w.heap.size]?=some (.cells #[.pointer (some ⟨w.heap.size+1,0,none⟩)] 105 (0,0)):=heap_alloc_new w _;have e1:(w.alloc (.cells #[.pointer (some ⟨w.heap.size+1,0,none⟩)] 105)).heap.size=w.heap.size+1:=by simp
 obtain⟨W1,H1⟩:∃W1,Hid (w.alloc (.cells #[.pointer (some ⟨w.heap.size+1,0,none⟩)] 105)=W1):=⟨_,rfl⟩;rw[H1.out]at k1 r1 e1 |-;have k3:=Kp.alloc none' W1 (.cells #[.int .i64 0,.string ⟨#[]⟩,.pointer (some ⟨w.heap.size+1,0,none⟩),.pointer (some ⟨w.heap.size+1,0,none⟩)] 157);have c0:=Am W1 #[.int .i64 0,.string ⟨#[]⟩,.pointer (some ⟨w.heap.size+1,0,none⟩),.pointer (some ⟨w.heap.size+1,0,none⟩)] 157 0 _ rfl
 have c1:=Am W1 #[.int .i64 0,.string ⟨#[]⟩,.pointer (some ⟨w.heap.size+1,0,none⟩),.pointer (some ⟨w.heap.size+1,0,none⟩)] 157 1 _ rfl;have c2:=Am W1 #[.int .i64 0,.string ⟨#[]⟩,.pointer (some ⟨w.heap.size+1,0,none⟩),.pointer (some ⟨w.heap.size+1,0,none⟩)] 157 2 _ rfl;have c3:=Am W1 #[.int .i64 0,.string ⟨#[]⟩,.pointer (some ⟨w.heap.size+1,0,none⟩),.pointer (some ⟨w.heap.size+1,0,none⟩)] 157 3 _ rfl
 have cf:=Cy W1 #[.int .i64 0,.string ⟨#[]⟩,.pointer (some ⟨w.heap.size+1,0,none⟩),.pointer (some ⟨w.heap.size+1,0,none⟩)] 157;have cb:Cb (W1.alloc (.cells #[.int .i64 0,.string ⟨#[]⟩,.pointer (some ⟨w.heap.size+1,0,none⟩),.pointer (some ⟨w.heap.size+1,0,none⟩)] 157)) W1.heap.size:=⟨_,_,heap_alloc_new W1 _⟩;rw[e1]at c0 c1 c2 c3 cf cb;have r1':=k3.block w.heap.size (by omega) (fun h=>h);rw[r1]at r1'
 obtain⟨W3,H3⟩:∃W3,Hid (W1.alloc (.cells #[.int .i64 0,.string ⟨#[]⟩,.pointer (some ⟨w.heap.size+1,0,none⟩),.pointer (some ⟨w.heap.size+1,0,none⟩)] 157)=W3):=⟨_,rfl⟩;rw[H3.out]at k3 c0 c1 c2 c3 cf cb r1' |-;refine bodyPost_ret (Hw rfl _ w.heap.size _ (w.heap.size+1) rfl r1') rfl ?_;refine⟨w.heap.size+1,rfl,by omega,⟨fun x hx=>?_,⟨rfl,rfl⟩,by simp⟩,k1.then k3⟩;have:x=w.heap.size+1:=by simpa using hx
 subst this;exact⟨c0,c1,c2,c3,cf,cb⟩
end Go.Proofs.YtgcgacjhkhjhmaaGreatDoor
namespace Go.Proofs.YtgcgacjhkhjhmaaGreatDoor
open Go.RowKit
open Go.ChangeMaps (setBlock)
def delI(c:Int->Option Value)(z:Int):Int->Option Value:=fun k=>if k=z then none else c k
theorem Oj{w:World}{m:Nat}{es:Array MapEntry}{cl:Nat}{c:Int->Option Value}{t e ty:TypeId}(ht:prog.underlying t=some (.map 3 e))(hm:w.heap[m]?=some (.map es cl))(h:Mi c es.toList cl)(z:Int) :
  ∃es' cl',(Builtin.delete_ #[t,3] ty #[.map (some m),.int .i64 z]).run prog w=.ok (.tuple #[]) (setBlock w m (.map es' cl'))/\Mi (delI c z) es'.toList cl':=by
 have h1:(#[t,3]:Array TypeId)[0]?=some t:=rfl;have h2:(#[Value.map (some m),.int .i64 z]:Array Value)[0]?=some (.map (some m)):=rfl;have h3:(#[Value.map (some m),.int .i64 z]:Array Value)[1]?=some (.int .i64 z):=rfl;rcases h.find z with ⟨q1,q2,q3⟩|⟨j,e,q1,q3,q4,q2⟩
 ·refine⟨es,cl,?_,?_⟩
  ·simp only[Builtin.delete_,h1,h2,h3,Sem.run_bind,run_underlying ht,Result.andThen_ok,MapKept.run_getObj_map hm,Sem.run_pure,Bs,Instr.findKey,run_underlying underlying3,q2,MapKept.run_setObj_map _ hm];rfl
  ·have:delI c z=c:=by
    funext k;unfold delI;split
    ·rename_i e;subst e;exact q1.symm
    ·rfl
   rw[this];exact h
 ·refine⟨es.eraseIdxIfInBounds j,cl,?_,?_⟩
  ·simp only[Builtin.delete_,h1,h2,h3,Sem.run_bind,run_underlying ht,Result.andThen_ok,MapKept.run_getObj_map hm,Sem.run_pure,Bs,Instr.findKey,run_underlying underlying3,q2,MapKept.run_setObj_map _ hm];rfl
  ·have hl:(es.eraseIdxIfInBounds j).toList=es.toList.eraseIdx j:=by simp
   rw[hl];have huniq:∀k e',es.toList[k]?=some e'->e'.key=.int .i64 z->k=j:=fun k e' hk hkey=>by
    have hp:=List.pairwise_iff_getElem.1 h.e3;obtain⟨lk,vk⟩:=List.getElem?_eq_some_iff.1 hk;obtain⟨lj,vj⟩:=List.getElem?_eq_some_iff.1 q3;rcases Nat.lt_trichotomy k j with hlt|heq|hgt
    ·exact absurd (by rw[vk,vj,hkey,q4]) (hp k j lk lj hlt)
    ·exact heq
    ·exact absurd (by rw[vk,vj,hkey,q4]) (hp j k lj lk hgt)
   have hsub:=List.eraseIdx_sublist es.toList j;refine⟨fun e' he'=>?_,fun k y hk=>?_,h.e3.sublist hsub,fun e' he'=>h.e4 e' (hsub.subset he'),h.e5.sublist (hsub.map _)⟩
   ·obtain⟨i,hi,hie⟩:=List.mem_eraseIdx_iff_getElem?.1 he';obtain⟨k,a,b⟩:=h.e1 e' (List.mem_of_getElem? hie);have hkz:k≠z:=fun e0=>hi (huniq i e' hie (by rw[a,e0]));exact⟨k,a,by simp[delI,hkz,b]⟩
   ·have hkz:k≠z:=fun e0=>by simp[delI,e0]at hk
    simp only[delI,hkz,if_false]at hk;obtain⟨e',he',hk'⟩:=h.e2 k y hk;obtain⟨i,hi⟩:=List.getElem?_of_mem he';refine⟨e',List.mem_eraseIdx_iff_getElem?.2 ⟨i,fun e0=>?_,hi⟩,hk'⟩;subst e0;rw[q3]at hi;cases hi
    rw[q4]at hk';exact hkz ((Value.int.inj hk').2).symm
def MapOf(L:List Nat)(N:Nat->Int)(c:Int->Option Value):Prop:=∀z v,c z=some v↔∃x∈L,N x=z/\v=.pointer (some ⟨x,0,none⟩)
theorem MapOf.noneOf{L:List Nat}{N:Nat->Int}{c:Int->Option Value}(h:MapOf L N c){z:Int}(hz:z ∉ L.map N):c z=none:=by
 cases hc:c z with
 | none=>rfl
 | some v =>
  obtain⟨x,hx,hn,_⟩:=(h z v).1 hc;exact absurd (List.mem_map.2 ⟨x,hx,hn⟩) hz
theorem MapOf.someOf{L:List Nat}{N:Nat->Int}{c:Int->Option Value}(h:MapOf L N c){x:Nat}(hx:x∈L):c (N x)=some (.pointer (some ⟨x,0,none⟩)):=(h _ _).2 ⟨x,hx,rfl,rfl⟩
theorem MapOf.size{L:List Nat}{N:Nat->Int}{c:Int->Option Value}{es:List MapEntry}{cl:Nat}(h:MapOf L N c)(hM:Mi c es cl)(hn:(L.map N).Nodup):es.length=L.length:=by
 have h1:(es.map (·.key)).Nodup:=by
  unfold List.Nodup;rw[List.pairwise_map];exact hM.e3
 have h2:((L.map N).map (Value.int .i64)).Nodup:=by
  unfold List.Nodup;rw[List.pairwise_map];refine List.Pairwise.imp ?_ hn;intro a b hab e;exact hab (Value.int.inj e).2
 have hp:=(List.perm_ext_iff_of_nodup h1 h2).2 (fun a=>by
  constructor
  ·intro ha;obtain⟨e,he,rfl⟩:=List.mem_map.1 ha;obtain⟨z,hz,hc⟩:=hM.e1 e he;obtain⟨x,hx,hn,_⟩:=(h z _).1 hc;exact List.mem_map.2 ⟨z,List.mem_map.2 ⟨x,hx,hn⟩,hz.symm⟩
  ·intro ha;obtain⟨z,hz,rfl⟩:=List.mem_map.1 ha;obtain⟨x,hx,rfl⟩:=List.mem_map.1 hz;obtain⟨e,he,hk⟩:=hM.e2 (N x) _ (h.someOf hx);exact List.mem_map.2 ⟨e,he,hk⟩)
 have:=hp.length_eq;simpa using this
structure Cq where
 c:Nat
 g:Nat
 s:Nat
 m:Nat
 p:Dp
 n:Nat
 sz:Nat
def Cq.foot(q:Cq)(L:List Nat)(k:Nat):Prop:=q.p.mem k\/k=q.g\/k=q.c\/k=q.m\/k∈q.s::L
structure Cc (w:World) (q:Cq) (h mi cm:Int):Prop where
 c0:w.cell? ⟨q.c,0,none⟩=some (.pointer (some ⟨q.g,0,none⟩))
 c1:w.cell? ⟨q.c,1,none⟩=some (.int .i64 (q.sz:Int))
 c2:w.cell? ⟨q.c,2,none⟩=some (.pointer (some ⟨q.s,0,none⟩))
 c3:w.cell? ⟨q.c,3,none⟩=some (.map (some q.m))
 c4:w.cell? ⟨q.c,4,none⟩=some (.int .i64 h)
 c5:w.cell? ⟨q.c,5,none⟩=some (.int .i64 mi)
 c6:w.cell? ⟨q.c,6,none⟩=some (.int .i64 cm)
 cf:∀j,w.frozen? ⟨q.c,j,none⟩=false
theorem Cc.lt{w:World}{q:Cq}{h mi cm:Int}(H:Cc w q h mi cm):q.c<w.heap.size:=lt_of_cell H.c0
theorem Cc.kept{w w':World}{q:Cq}{h mi cm:Int}{S:Nat->Prop}(H:Cc w q h mi cm)(hk:Kp S w w')(hS:¬S q.c):Cc w' q h mi cm :=
 ⟨hk.cell H.c0 hS,hk.cell H.c1 hS,hk.cell H.c2 hS,hk.cell H.c3 hS,hk.cell H.c4 hS,hk.cell H.c5 hS,hk.cell H.c6 hS,fun j=>by rw[hk.frozen H.lt hS];exact H.cf j⟩
theorem Cc.put4{w w':World}{q:Cq}{h h' mi cm:Int}(H:Cc w q h mi cm)(p:Put w w' q.c 4 (.int .i64 h')):Cc w' q h' mi cm :=
 ⟨by rw[p.old _ _ (.inr (by omega))];exact H.c0,by rw[p.old _ _ (.inr (by omega))];exact H.c1,by rw[p.old _ _ (.inr (by omega))];exact H.c2,by rw[p.old _ _ (.inr (by omega))];exact H.c3,p.same,
  by rw[p.old _ _ (.inr (by omega))];exact H.c5,by rw[p.old _ _ (.inr (by omega))];exact H.c6,fun j=>by rw[p.fr];exact H.cf j⟩
theorem Cc.put5{w w':World}{q:Cq}{h mi mi' cm:Int}(H:Cc w q h mi cm)(p:Put w w' q.c 5 (.int .i64 mi')):Cc w' q h mi' cm :=
 ⟨by rw[p.old _ _ (.inr (by omega))];exact H.c0,by rw[p.old _ _ (.inr (by omega))];exact H.c1,by rw[p.old _ _ (.inr (by omega))];exact H.c2,by rw[p.old _ _ (.inr (by omega))];exact H.c3,
  by rw[p.old _ _ (.inr (by omega))];exact H.c4,p.same,by rw[p.old _ _ (.inr (by omega))];exact H.c6,fun j=>by rw[p.fr];exact H.cf j⟩
def Mc(w:World)(m:Nat)(L:List Nat)(N:Nat->Int):Prop:=∃es cl c,w.heap[m]?=some (.map es cl)/\Mi c es.toList cl/\MapOf L N c
theorem Mc.kept{w w':World}{m:Nat}{L:List Nat}{N:Nat->Int}{S:Nat->Prop}(h:Mc w m L N)(hk:Kp S w w')(hS:¬S m):Mc w' m L N:=by
 obtain⟨es,cl,c,h1,h2,h3⟩:=h;exact⟨es,cl,c,by rw[hk.block m (Array.getElem?_eq_some_iff.1 h1).1 hS];exact h1,h2,h3⟩
theorem Mc.perm{w:World}{m:Nat}{L L':List Nat}{N:Nat->Int}(h:Mc w m L N)(hp:∀x,x∈L'↔x∈L):Mc w m L' N:=by
 obtain⟨es,cl,c,h1,h2,h3⟩:=h;exact⟨es,cl,c,h1,h2,fun z v=>by rw[h3];simp only[hp]⟩
structure Ca (w:World) (q:Cq) (D:Dv) (Q:Nat->ByteArray) (M cm:Int) (L:List Nat) (N:Nat->Int) (T:Nat->ByteArray) (h mi:Int):Prop where
 hR:Rest w q.p D q.n Q M
 st:D.st=false
 hP:Pag w q.g q.p q.n cm (.slice none 0 0) []
 cc:Cc w q h mi cm
 rg:∃ah be,Ring w q.s L N T ah be
 mc:Mc w q.m L N
 nd:(L.map N).Nodup
 da:∀x∈L,∃k:Nat,k<q.n/\N x=(k:Int)/\T x=Q k
 s1:∀k,q.p.mem k->k≠q.c/\k≠q.m/\k ∉ q.s::L
 s2:q.g≠q.c/\q.g≠q.m/\q.g ∉ q.s::L
 s3:q.c≠q.m/\q.c ∉ q.s::L
 s4:q.m ∉ q.s::L
 n2:q.n<=160
 hQ:∀p,(Q p).size=256
 sm:q.sz<=64
theorem Ca.lt{w:World}{q:Cq}{D:Dv}{Q:Nat->ByteArray}{M cm:Int}{L:List Nat}{N:Nat->Int}{T:Nat->ByteArray}{h mi:Int}(H:Ca w q D Q M cm L N T h mi)(k:Nat)(hk:q.foot L k):k<w.heap.size:=by
 rcases hk with e|e|e|e|e
 ·exact H.hR.hd.lt k e
 ·rw[e];exact H.hP.lt
 ·rw[e];exact H.cc.lt
 ·obtain⟨es,cl,c,h1,_⟩:=H.mc;rw[e];exact(Array.getElem?_eq_some_iff.1 h1).1
 ·obtain⟨ah,be,hr⟩:=H.rg;exact(hr.rm k e).lt
theorem Ca.kept{w w':World}{q:Cq}{D:Dv}{Q:Nat->ByteArray}{M cm:Int}{L:List Nat}{N:Nat->Int}{T:Nat->ByteArray}{h mi:Int}{S:Nat->Prop}(H:Ca w q D Q M cm L N T h mi)(hk:Kp S w w')(hS:∀k,q.foot L k->¬S k):Ca w' q D Q M cm L N T h mi:=by
 obtain⟨ah,be,hr⟩:=H.rg;have hP:Pag w' q.g q.p q.n cm (.slice none 0 0) [] :=
  ⟨hk.cell H.hP.c0 (hS _ (.inr (.inl rfl))),hk.cell H.hP.c1 (hS _ (.inr (.inl rfl))),hk.cell H.hP.c2 (hS _ (.inr (.inl rfl))),hk.cell H.hP.c3 (hS _ (.inr (.inl rfl))),fun j=>by rw[hk.frozen H.hP.lt (hS _ (.inr (.inl rfl)))];exact H.hP.fr j,Chs.nil _ _,H.hP.gp⟩
 exact⟨H.hR.kept hk (fun k hm=>hS k (.inl hm)),H.st,hP,H.cc.kept hk (hS _ (.inr (.inr (.inl rfl)))),⟨ah,be,hr.kept hk (fun x hx=>hS x (.inr (.inr (.inr (.inr hx)))))⟩,H.mc.kept hk (hS _ (.inr (.inr (.inr (.inl rfl))))),H.nd,H.da,H.s1,H.s2,H.s3,H.s4,H.n2,H.hQ,H.sm⟩
theorem Ca.keptN{w w':World}{q:Cq}{D:Dv}{Q:Nat->ByteArray}{M cm:Int}{L:List Nat}{N:Nat->Int}{T:Nat->ByteArray}{h mi:Int}(H:Ca w q D Q M cm L N T h mi)(hk:Kp none' w w'):Ca w' q D Q M cm L N T h mi:=H.kept hk (fun _ _ h=>h)
end Go.Proofs.YtgcgacjhkhjhmaaGreatDoor
namespace Go.Proofs.YtgcgacjhkhjhmaaGreatDoor
theorem KV{ps:List Pr}{k:ByteArray}(h:hasN ps k=true):findN ps k<ps.length:=by
 have h1:=B8 ps k;rcases Nat.lt_or_ge (findN ps k) ps.length with h'|h'
 ·exact h'
 ·exfalso;unfold hasN at h;have e:ps[findN ps k]?=none:=List.getElem?_eq_none h';simp_all
def lastN(l:List Sp):Nd:=(l.getLast?.map Sp.nd).getD nd0
def getT(S:Sw)(root:Int)(key:ByteArray):ByteArray × Bool × Int:=if root=0 then (⟨#[]⟩,false,0) else
 if (wayG S key 41 [] root 0).2.1=0 then (if hasN (lastN (wayG S key 41 [] root 0).1).ps key then (((lastN (wayG S key 41 [] root 0).1).ps.getD (findN (lastN (wayG S key 41 [] root 0).1).ps key) ⟨⟨#[]⟩,⟨#[]⟩⟩).v,true,0) else (⟨#[]⟩,false,0))
 else (⟨#[]⟩,false,(wayG S key 41 [] root 0).2.1)
def dropL(S:Sw)(l:List Int):Sw:=l.foldl Sw.drop S
def insAt{α:Type}(l:List α)(i:Nat)(x:α):List α:=l.take i++x::l.drop i
def Nd.without(n:Nd):Bool:=n.ps.length==0&&n.kd.length==0
def Nd.lose(n:Nd)(kid:Nat):Nd:={ n with kd:=n.kd.eraseIdx kid,ks:=if n.ks.length=0 then n.ks else n.ks.eraseIdx (kid - 1) }
structure Cg where
 S:Sw
 k:Nat
 ws:List (Int × Nd)
 tk:List Int
 sp:List Int
def Cg.takeZ(C:Cg):Int × Int:=if C.sp.length=0 then C.S.takeE else (C.sp.getD (C.sp.length - 1) 0,0)
def Cg.take(C:Cg):Cg:=if C.sp.length=0 then { C with S:=C.S.take (fillB 0),tk:=if C.S.takeE.2=0 then C.tk++[C.S.takeE.1] else C.tk } else { C with sp:=C.sp.take (C.sp.length - 1) }
def Cg.write(C:Cg)(z:Int)(n:Nd):Cg:={ C with ws:=C.ws++[(z,n)] }
def Cg.split(C:Cg)(z:Int)(n:Nd):Cg:=if C.takeZ.2=0 then (C.take.write z n.fst).write C.takeZ.1 n.snd else C.take
def Cg.splitAb(C:Cg)(kid:Nat)(n nab:Nd):Nd:=if C.takeZ.2=0 then { nab with ks:=insAt nab.ks kid n.mid,kd:=insAt nab.kd (kid+1) C.takeZ.1 } else nab
def Cg.raiseZ(C:Cg):Int × Int:=if C.takeZ.2=0 then (if C.take.takeZ.2=0 then (C.takeZ.1,0) else (0,C.take.takeZ.2)) else (0,C.takeZ.2)
def Cg.raise(C:Cg)(z:Int)(n:Nd):Cg:=if C.takeZ.2=0 then (if C.take.takeZ.2=0 then (C.take.split z n).write C.takeZ.1 (C.take.splitAb 0 n ⟨false,[],[],[z]⟩) else C.take.split z n) else C.take
def Cg.rootZ(C:Cg)(pg:Int)(n:Nd):Int × Int:=if n.without then (0,0) else if n.kd.length=1 then (n.kd.getD 0 0,0) else if 256<n.size then C.raiseZ else (pg,0)
def Cg.root(C:Cg)(pg:Int)(n:Nd):Cg:=if n.without then { C with sp:=C.sp++[pg] } else if n.kd.length=1 then { C with sp:=C.sp++[pg] } else if 256<n.size then C.raise pg n else C.write pg n
def Cg.leafW(C:Cg)(root:Int)(key:ByteArray):List Sp:=if root=0 then [⟨C.takeZ.1,⟨true,[],[],[]⟩,0,0⟩] else (wayG C.S key 41 [] root C.k).1
def Cg.leafE(C:Cg)(root:Int)(key:ByteArray):Int:=if root=0 then C.takeZ.2 else (wayG C.S key 41 [] root C.k).2.1
def Cg.leaf(C:Cg)(root:Int)(key:ByteArray):Cg:=if root=0 then C.take else { C with k:=(wayG C.S key 41 [] root C.k).2.2 }
def coZ(kid bt:Nat)(nab:Nd):Int:=if bt=kid then nab.kd.getD (bt+1) 0 else nab.kd.getD bt 0
def Cg.coE(C:Cg)(z:Int):Int:=trE C.S C.k z 1
def Cg.coN(C:Cg)(z:Int):Nd:=trN C.S C.k z 1
def Cg.co(C:Cg)(z:Int):Cg:={ C with k:=trK C.S C.k z }
def Cg.coJ(C:Cg)(kid bt:Nat)(n nab:Nd):Nd:=if bt=kid then n.join (C.coN (coZ kid bt nab)) (nab.ks.getD bt ⟨#[]⟩) else (C.coN (coZ kid bt nab)).join n (nab.ks.getD bt ⟨#[]⟩)
structure Gr where
 C:Cg
 ab:Nd
 go:Bool
 e:Int
def bts(kid:Nat)(nab:Nd):List Nat:=(if 0<kid/\kid - 1<nab.ks.length then [kid - 1] else [])++(if kid<nab.ks.length then [kid] else [])
def Cg.gathF(C:Cg)(z:Int)(n nab:Nd):Option (Nat × Nd)->Gr
 | some g=>if n.kd.length=1 then ⟨(C.write (nab.kd.getD g.1 0) g.2.fst).write (nab.kd.getD (g.1+1) 0) g.2.snd,{ nab with ks:=nab.ks.set g.1 g.2.mid },true,0⟩ else ⟨C.write z n,nab,false,0⟩
 | none=>⟨C.write z n,nab,false,0⟩
def gathG (z : Int) (n nab : Nd) (kid : Nat) : List Nat → Option (Nat × Nd) → Cg → Gr
  | [], g, C => C.gathF z n nab g
  | bt :: r, g, C => if C.coE (coZ kid bt nab) = 0 then
      (if (C.coN (coZ kid bt nab)).leaf = n.leaf then
        (if (C.coJ kid bt n nab).writeE = 0 then ⟨{ (C.co (coZ kid bt nab)).write (nab.kd.getD bt 0) (C.coJ kid bt n nab) with sp := C.sp ++ [nab.kd.getD (bt + 1) 0] }, nab.lose (bt + 1), true, 0⟩
         else gathG z n nab kid r (g.or (some (bt, C.coJ kid bt n nab))) (C.co (coZ kid bt nab)))
       else gathG z n nab kid r g (C.co (coZ kid bt nab)))
    else ⟨C.co (coZ kid bt nab), nab, false, C.coE (coZ kid bt nab)⟩
def Cg.gather(C:Cg)(z:Int)(n:Nd)(kid:Nat)(nab:Nd):Gr:=gathG z n nab kid (bts kid nab) none C
def Cg.below(C:Cg)(s:Sp)(kid:Nat)(nab:Nd):Gr :=
 if s.nd.without then ⟨{ C with sp:=C.sp++[s.page] },nab.lose kid,true,0⟩
 else if 256<s.nd.size then ⟨C.split s.page s.nd,C.splitAb kid s.nd nab,true,C.takeZ.2⟩
 else if s.nd.size<128/\s.nd.size<s.was then C.gather s.page s.nd kid nab
 else ⟨C.write s.page s.nd,nab,false,0⟩
def Cg.down(C:Cg):Sp->List Sp->Gr
 | a,[]=>⟨C,a.nd,true,0⟩
 | a,b::l=>if (C.down b l).e=0 then (if (C.down b l).go then (C.down b l).C.below { b with nd:=(C.down b l).ab } a.kid a.nd else ⟨(C.down b l).C,a.nd,false,0⟩) else ⟨(C.down b l).C,a.nd,false,(C.down b l).e⟩
def Cg.settle(C:Cg):List Sp->Cg × Int × Int
 | []=>(C,0,0)
 | a::l=>if (C.down a l).e=0 then (if (C.down a l).go then ((C.down a l).C.root a.page (C.down a l).ab,(C.down a l).C.rootZ a.page (C.down a l).ab) else ((C.down a l).C,a.page,0)) else ((C.down a l).C,0,(C.down a l).e)
def Cg.tangled(C:Cg):Bool:=C.ws.any (fun p=>p.2.kd.any (fun k=>C.sp.contains k))||!decide (C.sp++C.ws.map Prod.fst).Nodup
def Cg.commitE(C:Cg):Int:=if C.tangled then 10 else if C.ws.all (fun p=>p.2.writeE==0) then 0 else 10
def writeL(S:Sw)(l:List (Int × Nd)):Sw:=l.foldl (fun S p=>S.write p.1 p.2.write) S
def Cg.commitS(C:Cg):Sw:=if C.commitE=0 then dropL (writeL C.S C.ws) C.sp else C.S
def Cg.putE(C:Cg)(way:List Sp):Int:=if (C.settle way).2.2=0 then (C.settle way).1.commitE else (C.settle way).2.2
def Cg.putS(C:Cg)(way:List Sp):Sw:=if C.putE way=0 then (C.settle way).1.commitS else dropL (C.settle way).1.S (C.settle way).1.tk
def Cg.putZ(C:Cg)(root:Int)(way:List Sp):Int:=if C.putE way=0 then (C.settle way).2.1 else root
def setLast(g:Nd->Nd):List Sp->List Sp
 | []=>[]
 | [a]=>[{ a with nd:=g a.nd }]
 | a::b::l=>a::setLast g (b::l)
def cg0(S:Sw):Cg:=⟨S,0,[],[],[]⟩
def argE(key val:ByteArray):Bool:=decide (key.size<1\/32<key.size\/40<val.size)
def putTE(S:Sw)(root:Int)(key val:ByteArray):Int:=if argE key val then 1 else if (cg0 S).leafE root key=0 then ((cg0 S).leaf root key).putE (setLast (fun n=>n.put key val) ((cg0 S).leafW root key)) else (cg0 S).leafE root key
def putTZ(S:Sw)(root:Int)(key val:ByteArray):Int:=if argE key val then root else if (cg0 S).leafE root key=0 then ((cg0 S).leaf root key).putZ root (setLast (fun n=>n.put key val) ((cg0 S).leafW root key)) else root
def putTS(S:Sw)(root:Int)(key val:ByteArray):Sw:=if argE key val then S else if (cg0 S).leafE root key=0 then ((cg0 S).leaf root key).putS (setLast (fun n=>n.put key val) ((cg0 S).leafW root key)) else ((cg0 S).leaf root key).S
def delQ(S:Sw)(root:Int)(key:ByteArray):Bool:=decide (root≠0)&&(decide ((wayG S key 41 [] root 0).2.1=0)&&hasN (lastN (wayG S key 41 [] root 0).1).ps key)
def delC(S:Sw)(root:Int)(key:ByteArray):Cg:={ cg0 S with k:=(wayG S key 41 [] root 0).2.2 }
def delW(S:Sw)(root:Int)(key:ByteArray):List Sp:=setLast (fun n=>n.cut key) (wayG S key 41 [] root 0).1
def delTE(S:Sw)(root:Int)(key:ByteArray):Int:=if root=0 then 0 else if (wayG S key 41 [] root 0).2.1=0 then (if hasN (lastN (wayG S key 41 [] root 0).1).ps key then (delC S root key).putE (delW S root key) else 0) else (wayG S key 41 [] root 0).2.1
def delTB(S:Sw)(root:Int)(key:ByteArray):Bool:=delQ S root key&&decide (delTE S root key=0)
def delTZ(S:Sw)(root:Int)(key:ByteArray):Int:=if delQ S root key then (delC S root key).putZ root (delW S root key) else root
def delTS(S:Sw)(root:Int)(key:ByteArray):Sw:=if delQ S root key then (delC S root key).putS (delW S root key) else S
def Rng(l:List Pr)(lo hi:ByteArray):Prop:=l≠[]/\Asc l/\∀p∈l,inB p.k lo hi=true
theorem Rng.lt{l:List Pr}{lo hi:ByteArray}(h:Rng l lo hi):hi.size=0\/lessB lo hi=true:=by
 obtain⟨h1,h2,h3⟩:=h;cases l with
 | nil=>exact absurd rfl h1
 | cons p l =>
  have:=AR.1 (h3 p List.mem_cons_self);rcases this.2 with e|e
  ·exact .inl e
  ·exact .inr (O5 this.1 e)
theorem AN{k:ByteArray}(h:okKey k=true):1<=k.size/\k.size<=32:=of_decide_eq_true h
theorem CM{α:Type}{P:α->ByteArray->ByteArray->Prop}(Q:α->List Pr)(hP:∀t a b,P t a b->Rng (Q t) a b):∀(ks:List ByteArray) (ts:List α) (lo hi:ByteArray),(∀k∈ks,okKey k=true)->AH P ks ts lo hi ->
  Rng (ts.flatMap Q) lo hi/\ks.Pairwise (fun a b=>lessB a b=true)/\∀k∈ks,lessB lo k=true/\(hi.size=0\/lessB k hi=true)
 | [],[t],lo,hi,_,h=>⟨by simpa using hP t lo hi h,List.Pairwise.nil,fun k hk=>by cases hk⟩
 | k::ks,t::ts,lo,hi,hk,h=>by
  have hs:=AN (hk k List.mem_cons_self)
  obtain⟨⟨i1,i2,i3⟩,i4,i5⟩:=CM Q hP ks ts k hi (fun x hx=>hk x (List.mem_cons_of_mem _ hx)) h.2
  have ht:=hP t lo k h.1
  have hlk:lessB lo k=true:=by rcases ht.lt with e|e;omega;exact e
  have hkh:=Rng.lt (l:=ts.flatMap Q) ⟨i1,i2,i3⟩
  have hU:leU k hi:=by
   rcases hkh with e|e
   ·exact .inl e
   ·exact .inr ⟨by omega,AU e⟩
  refine⟨⟨?_,?_,?_⟩,?_,?_⟩
  ·rw[List.flatMap_cons];exact fun e=>ht.1 (List.append_eq_nil_iff.1 e).1
  ·rw[List.flatMap_cons];refine List.pairwise_append.2 ⟨ht.2.1,i2,fun p hp q hq=>?_⟩;have h1:=AR.1 (ht.2.2 p hp);have h2:=AR.1 (i3 q hq);rcases h1.2 with e|e
   ·omega
   ·exact Da e h2.1
  ·intro p hp;rw[List.flatMap_cons]at hp;rcases List.mem_append.1 hp with e|e
   ·exact CL (ht.2.2 p e) (AD lo) hU
   ·exact CL (i3 p e) (AU hlk) (DM hi)
  ·exact List.Pairwise.cons (fun x hx=>(i5 x hx).1) i4
  ·intro x hx;rcases List.mem_cons.1 hx with e|e
   ·rw[e];exact⟨hlk,hkh⟩
   ·exact⟨AY hlk (i5 x e).1,(i5 x e).2⟩
 | [],[],_,_,_,h=>h.elim
 | _::_,[],_,_,_,h=>h.elim
 | [],_::_::_,_,_,_,h=>h.elim
theorem Dd:∀(d:Nat) (t:Int × Fo d) (a b:ByteArray),tOk d t a b->Rng (fprs d t.2) a b
 | 0,t,a,b,h=>⟨h.2.1,h.2.2.2.2,fun p hp=>(h.2.2.2.1 p hp).2.2⟩
 | d+1,t,a,b,h=>(CM (fun (t:Int × Fo d)=>fprs d t.2) (fun t x y ht=>Dd d t x y ht) _ _ a b h.2.2.2.1 h.2.2.2.2).1
theorem Fi{α:Type}{P:α->ByteArray->ByteArray->Prop}{R:α->Prop}(hP:∀t a b,P t a b->R t):∀(ks:List ByteArray) (ts:List α) (lo hi:ByteArray),AH P ks ts lo hi->∀t∈ts,R t
 | [],[t],lo,hi,h=>fun s hs=>by rw[List.mem_singleton.1 hs];exact hP t lo hi h
 | k::ks,t::ts,lo,hi,h=>fun s hs=>by
  rcases List.mem_cons.1 hs with e|e
  ·rw[e];exact hP t lo k h.1
  ·exact Fi hP ks ts k hi h.2 s e
 | [],[],_,_,h=>h.elim
 | _::_,[],_,_,h=>h.elim
 | [],_::_::_,_,_,h=>h.elim
theorem Le{l:List ByteArray}(h1:∀k∈l,okKey k=true)(h2:l.Pairwise (fun a b=>lessB a b=true)):ordN l=true:=by
 unfold ordN;rw[Bool.and_eq_true,List.all_eq_true];exact⟨h1,BP _ h2⟩
theorem AG:∀(d:Nat) (f:Fo d) (a b:ByteArray),fOk d f a b->(fnd d f).right=true
 | 0,f,a,b,h=>B5 (fun p hp=>(h.1 p hp).2.1) (Le (fun k hk=>by obtain⟨p,hp,rfl⟩:=List.mem_map.1 hk;exact(h.1 p hp).1) (List.pairwise_map.2 h.2))
 | d+1,f,a,b,h=>BQ (fun z hz=>by obtain⟨t,ht,rfl⟩:=List.mem_map.1 hz;exact Fi (R:=fun (t:Int × Fo d)=>1<=t.1/\t.1<=65535) (fun t x y e=>e.1) _ _ _ _ h.2 t ht) (by rw[List.length_map];exact Bb _ _ _ _ h.2) (Le h.1 (CM (fun (t:Int × Fo d)=>fprs d t.2) (fun t x y ht=>Dd d t x y ht) _ _ a b h.1 h.2).2.1)
theorem Ip(x:ByteArray)(ks:List ByteArray)(k:ByteArray):An (x::ks) k=(if lessB k x then 0 else 1)+An ks k:=by
 unfold An;cases h:lessB k x<;>simp[h,Nat.add_comm]
theorem Iq{ks:List ByteArray}{k:ByteArray}(h:∀x∈ks,lessB k x=true):An ks k=0:=by
 unfold An;rw[List.filter_eq_nil_iff.2 (fun x hx=>by rw[h x hx];simp)];rfl
theorem GX{α:Type}{P:α->ByteArray->ByteArray->Prop}(Q:α->List Pr)(hP:∀t a b,P t a b->Rng (Q t) a b)(key:ByteArray):∀(ks:List ByteArray) (ts:List α) (lo hi:ByteArray),(∀k∈ks,okKey k=true)->AH P ks ts lo hi->inB key lo hi=true ->
  ∃A s B,ts=A++[s]++B/\A.length=An ks key/\inB key (lowB ks lo A.length) (ks.getD A.length hi)=true/\(∀p∈A.flatMap Q,lessB p.k key=true)/\∀p∈B.flatMap Q,lessB key p.k=true
 | [],[t],lo,hi,_,h,hi'=>⟨[],t,[],rfl,rfl,hi',(fun p hp=>by cases hp),(fun p hp=>by cases hp)⟩
 | k::ks,t::ts,lo,hi,hk,h,hb=>by
  have hk':=fun x hx=>hk x (List.mem_cons_of_mem k hx)
  have hs:=AN (hk k List.mem_cons_self)
  have hall:=CM Q hP (k::ks) (t::ts) lo hi hk h
  have hr:=CM Q hP ks ts k hi hk' h.2
  cases hlt:lessB key k with
  | true =>
   refine⟨[],t,ts,rfl,?_,?_,(fun p hp=>by cases hp),fun p hp=>?_⟩
   ·rw[Iq (fun x hx=>?_)];rfl
    rcases List.mem_cons.1 hx with e|e
    ·rw[e];exact hlt
    ·exact AY hlt ((List.pairwise_cons.1 hall.2.1).1 x e)
   ·show inB key lo k=true
    exact AR.2 ⟨(AR.1 hb).1,.inr hlt⟩
   ·exact Da hlt (AR.1 (hr.1.2.2 p hp)).1
  | false =>
   obtain⟨A,s,B,e,hl,hin,hA,hB⟩:=GX Q hP key ks ts k hi hk' h.2 (AR.2 ⟨hlt,(AR.1 hb).2⟩)
   refine⟨t::A,s,B,by rw[e];rfl,?_,?_,fun p hp=>?_,hB⟩
   ·rw[Ip,hlt,List.length_cons,hl];simp[Nat.add_comm]
   ·have e1:lowB (k::ks) lo (t::A).length=lowB ks k A.length:=by
     unfold lowB;rw[if_neg (by simp)];by_cases h0:A.length=0
     ·rw[if_pos h0,List.length_cons,h0];rfl
     ·obtain⟨n,hn⟩:=Nat.exists_eq_succ_of_ne_zero h0;rw[if_neg h0,List.length_cons,hn];rfl
    rw[e1];exact hin
   ·rw[List.flatMap_cons]at hp;rcases List.mem_append.1 hp with e|e
    ·have h1:=AR.1 ((hP t lo k h.1).2.2 p e);rcases h1.2 with e|e
     ·omega
     ·exact Da e hlt
    ·exact hA p e
 | [],[],_,_,_,h,_=>h.elim
 | _::_,[],_,_,_,h,_=>h.elim
 | [],_::_::_,_,_,_,h,_=>h.elim
def putL(l:List Pr)(k v:ByteArray):List Pr:=l.take (findN l k)++[⟨k,v⟩]++l.drop (behind l k)
def cutP(l:List Pr)(k:ByteArray):List Pr:=l.take (findN l k)++l.drop (behind l k)
def getL(l:List Pr)(k:ByteArray):ByteArray:=(l.getD (findN l k) ⟨⟨#[]⟩,⟨#[]⟩⟩).v
theorem B9(A M B:List Pr)(k:ByteArray)(hA:∀p∈A,lessB p.k k=true)(hB:∀p∈B,lessB k p.k=true):findN (A++M++B) k=A.length+findN M k:=by
 have hb:B.filter (fun p=>lessB p.k k)=[]:=List.filter_eq_nil_iff.2 (fun p hp=>by rw[AU (hB p hp)];simp);unfold findN;rw[List.filter_append,List.filter_append,List.filter_eq_self.2 hA,hb,List.append_nil,List.length_append]
theorem Fb(A M B:List Pr)(k:ByteArray)(hA:∀p∈A,lessB p.k k=true)(hB:∀p∈B,lessB k p.k=true):hasN (A++M++B) k=hasN M k:=by
 unfold hasN;rw[B9 A M B k hA hB,List.append_assoc,List.getElem?_append_right (by omega),Nat.add_sub_cancel_left];by_cases h:findN M k<M.length
 ·rw[List.getElem?_append_left h]
 ·have e:findN M k=M.length:=by have:=B8 M k;omega
  rw[e,List.getElem?_append_right (Nat.le_refl _),Nat.sub_self,List.getElem?_eq_none (Nat.le_refl _)];cases B with
  | nil=>rfl
  | cons p B =>
   have:=hB p List.mem_cons_self;simp only[List.getElem?_cons_zero];exact decide_eq_false (fun e=>by rw[e,AD]at this;cases this)
theorem EZ(A M B:List Pr)(k:ByteArray)(hA:∀p∈A,lessB p.k k=true)(hB:∀p∈B,lessB k p.k=true):behind (A++M++B) k=A.length+behind M k:=by
 unfold behind;rw[Fb A M B k hA hB,B9 A M B k hA hB];split<;>omega
theorem CX{α:Type}(A M B:List α)(i:Nat)(h:i<=M.length):(A++M++B).take (A.length+i)=A++M.take i:=by
 rw[List.append_assoc,List.take_append,List.take_of_length_le (by omega),Nat.add_sub_cancel_left,List.take_append_of_le_length h]
theorem CJ{α:Type}(A M B:List α)(i:Nat)(h:i<=M.length):(A++M++B).drop (A.length+i)=M.drop i++B:=by
 rw[List.append_assoc,List.drop_append,List.drop_eq_nil_of_le (by omega),Nat.add_sub_cancel_left,List.drop_append_of_le_length h,List.nil_append]
theorem Ob(A M B:List Pr)(k v:ByteArray)(hA:∀p∈A,lessB p.k k=true)(hB:∀p∈B,lessB k p.k=true):putL (A++M++B) k v=A++putL M k v++B:=by
 unfold putL;rw[B9 A M B k hA hB,EZ A M B k hA hB,CX _ _ _ _ (B8 M k),CJ _ _ _ _ (Ea M k)];simp only[List.append_assoc]
theorem M6(A M B:List Pr)(k:ByteArray)(hA:∀p∈A,lessB p.k k=true)(hB:∀p∈B,lessB k p.k=true):cutP (A++M++B) k=A++cutP M k++B:=by
 unfold cutP;rw[B9 A M B k hA hB,EZ A M B k hA hB,CX _ _ _ _ (B8 M k),CJ _ _ _ _ (Ea M k)];simp only[List.append_assoc]
theorem Nl(A M B:List Pr)(k:ByteArray)(hA:∀p∈A,lessB p.k k=true)(hB:∀p∈B,lessB k p.k=true)(h:hasN M k=true):getL (A++M++B) k=getL M k:=by
 unfold getL;rw[B9 A M B k hA hB,List.getD_eq_getElem?_getD,List.getD_eq_getElem?_getD,List.append_assoc,List.getElem?_append_right (by omega),Nat.add_sub_cancel_left,List.getElem?_append_left (KV h)]
theorem F5(l:List Pr)(h:Asc l)(k:ByteArray):∃A C,l.take (findN l k)=A/\l.drop (behind l k)=C/\(∀p∈A,p∈l/\lessB p.k k=true)/\(∀p∈C,p∈l/\lessB k p.k=true)/\Asc (A++C):=by
 obtain⟨A,C,e,hA,hC⟩:=PP l h k;have hf:=Iy A C k hA hC;have hh:=OY A C k hA hC;refine⟨A,l.drop (behind l k),by rw[e,hf,List.take_left],rfl,fun p hp=>⟨by rw[e];exact List.mem_append_left _ hp,hA p hp⟩,fun p hp=>⟨List.mem_of_mem_drop hp,?_⟩,?_⟩
 ·have hasc:=h;rw[e]at hasc;have h2:=(List.pairwise_append.1 hasc).2.1;unfold behind at hp;rw[e,hf]at hp;cases C with
  | nil =>
   have hh':hasN (A++[]) k=false:=hh;rw[hh']at hp;simp at hp
  | cons c C =>
   have hh':hasN (A++c::C) k=decide (c.k=k):=hh;rw[hh']at hp;have h3:=(List.pairwise_cons.1 h2).1;by_cases hc:c.k=k
   ·rw[show (decide (c.k=k))=true from decide_eq_true hc,if_pos rfl]at hp;have:p∈C:=by simpa using hp
    have:=h3 p this;rw[hc]at this;exact this
   ·rw[show (decide (c.k=k))=false from decide_eq_false hc,if_neg (by simp)]at hp;have hm:p∈c::C:=by simpa using hp
    have hck:lessB k c.k=true:=by
     cases hx:lessB k c.k with
     | true=>rfl
     | false=>exact absurd (BB (hC c List.mem_cons_self) hx) hc
    rcases List.mem_cons.1 hm with e|e
    ·rw[e];exact hck
    ·exact AY hck (h3 p e)
 ·have:(A++l.drop (behind l k)).Sublist l:=by
   have e1:A=l.take (findN l k):=by rw[e,hf,List.take_left]
   have h4:findN l k<=behind l k:=by unfold behind;split<;>omega
   have e2:l.drop (behind l k)=(l.drop (findN l k)).drop (behind l k - findN l k):=by rw[List.drop_drop,show findN l k+(behind l k - findN l k)=behind l k by omega]
   have e3:(l.take (findN l k)++(l.drop (findN l k)).drop (behind l k - findN l k)).Sublist (l.take (findN l k)++l.drop (findN l k)):=(List.Sublist.refl _).append (List.drop_sublist _ _);rw[List.take_append_drop]at e3;rw[e1,e2];exact e3
  exact List.Pairwise.sublist this h
theorem J5{l:List Pr}{lo hi k v:ByteArray}(h:Bw l lo hi)(hk:okKey k=true)(hv:v.size<=40)(hb:inB k lo hi=true):Bw (putL l k v) lo hi:=by
 obtain⟨A,C,e1,e2,hA,hC,hasc⟩:=F5 l h.2 k;unfold putL;rw[e1,e2];refine⟨fun p hp=>?_,?_⟩
 ·rcases List.mem_append.1 hp with e|e
  ·rcases List.mem_append.1 e with e|e
   ·exact h.1 p (hA p e).1
   ·rw[List.mem_singleton.1 e];exact⟨hk,hv,hb⟩
  ·exact h.1 p (hC p e).1
 ·obtain⟨a1,a2,a3⟩:=List.pairwise_append.1 hasc;refine List.pairwise_append.2 ⟨List.pairwise_append.2 ⟨a1,List.pairwise_singleton _ _,fun p hp q hq=>by rw[List.mem_singleton.1 hq];exact(hA p hp).2⟩,a2,fun p hp q hq=>?_⟩;rcases List.mem_append.1 hp with e|e
  ·exact a3 p e q hq
  ·rw[List.mem_singleton.1 e];exact(hC q hq).2
theorem J4{l:List Pr}{lo hi k:ByteArray}(h:Bw l lo hi):Bw (cutP l k) lo hi:=by
 obtain⟨A,C,e1,e2,hA,hC,hasc⟩:=F5 l h.2 k;unfold cutP;rw[e1,e2];refine⟨fun p hp=>?_,hasc⟩;rcases List.mem_append.1 hp with e|e
 ·exact h.1 p (hA p e).1
 ·exact h.1 p (hC p e).1
theorem Mg(l:List Pr)(h:Asc l)(k v:ByteArray)(hk:k.size<=32)(hv:v.size<=40):((putL l k v).map Pr.size).sum<=(l.map Pr.size).sum+74/\putL l k v≠[]:=by
 have h4:findN l k<=behind l k:=by unfold behind;split<;>omega
 have e1:=Au Pr.size l (findN l k);have e2:=Au Pr.size (l.drop (findN l k)) (behind l k - findN l k);rw[List.drop_drop,show findN l k+(behind l k - findN l k)=behind l k by omega]at e2;unfold putL;refine⟨?_,by simp⟩;simp only[List.map_append,List.sum_append,List.map_cons,List.map_nil,List.sum_cons,List.sum_nil];have:(⟨k,v⟩:Pr).size<=74:=by show 2+k.size+v.size<=74;omega
 omega
theorem LN(l:List Pr)(k:ByteArray):((cutP l k).map Pr.size).sum<=(l.map Pr.size).sum:=by
 have h4:findN l k<=behind l k:=by unfold behind;split<;>omega
 have e1:=Au Pr.size l (findN l k);have e2:=Au Pr.size (l.drop (findN l k)) (behind l k - findN l k);rw[List.drop_drop,show findN l k+(behind l k - findN l k)=behind l k by omega]at e2;unfold cutP;simp only[List.map_append,List.sum_append];omega
end Go.Proofs.YtgcgacjhkhjhmaaGreatDoor
namespace Go.Proofs.YtgcgacjhkhjhmaaGreatDoor
open Go.RowKit
set_option maxRecDepth 100000 in
theorem GU(g n:Nat)(p:Dp)(D:Dv)(c:Int)(bv:Value)(bl:List Chg)(w:World)(hP:Pag w g p n c bv bl)(hD:Dev w p D)(hn:126+4*n<=D.n)(hsy:says (D.at 0)=false) :
  Calls prog 41 #[.pointer (some ⟨g,0,none⟩)] w fun e w'=>e=.returned (.int .i64 0)/\Kp none' w w':=by
 have hc0:=hP.c0;have HR0:Hid (rdL D 0=D.at 0):=Og D 0 (by omega);have HS0:Hid (saysB ⟨(D.at 0).toArray⟩=says (D.at 0)):=rfl;rw[hsy]at HS0;go_enter func41,ntmps41;go_wp2_with (first
  | (go_at_call 73;refine(I7 p D _ _ hD).mono ?_;rintro e w1 ⟨rfl,hk1⟩;rw[HR0.out])
  | (go_at_call 72;refine(Ka _ _).mono ?_;rintro e w' ⟨rfl,rfl⟩;rw[HS0.out])
  | fail)
 go_ret;exact⟨rfl,hk1⟩
set_option maxRecDepth 100000 in
theorem FE{w:World}{p:Dp}{D:Dv}{n:Nat}{Q:Nat->ByteArray}{m:Int}(h:Rest w p D n Q m)(hn1:1<=n)(hn2:n<=160) :
  Calls prog 16 #[.pointer (some ⟨p.d,0,none⟩),.int .i64 n] w fun e w'=>∃g,e=.returned (.tuple #[.pointer (some ⟨g,0,none⟩),.int .i64 0])/\Rest w' p D n Q m/\Pag w' g p n 0 (.slice none 0 0) []/\w.heap.size<=g/\Kp p.mem w w':=by
 have hD:=h.hd;have hDn:=h.hn;have hi1:¬(n:Int)<1:=by omega
 have hi2:¬(160:Int)<(n:Int):=by omega
 have hi3:¬(D.n:Int)<126+4*(n:Int):=by omega
 have HW:Hid (wrap64 (126+4*(n:Int))=126+4*(n:Int)):=by show _=_;unfold wrap64;omega
 have hPn:=Pg w p D n hD;have hka:=Kp.alloc none' w (.cells #[.pointer (some ⟨p.d,0,none⟩),.int .i64 (n:Int),.int .i64 0,.slice none 0 0] 97);obtain⟨wa,Ha⟩:∃wa,Hid (w.alloc (.cells #[.pointer (some ⟨p.d,0,none⟩),.int .i64 (n:Int),.int .i64 0,.slice none 0 0] 97)=wa):=⟨_,rfl⟩;rw[Ha.out]at hPn hka;have hsy:says (D.at 0)=false:=by rw[KM h.hu];exact h.hc.1
 have hgb:=GU w.heap.size n p D 0 _ [] wa hPn (hD.keptN hka) (by omega) hsy;obtain⟨gg,HG⟩:∃gg,Hid (w.heap.size=gg):=⟨_,rfl⟩;rw[HG.out]at hPn hgb;have HR:=hide h;clear h hsy hDn;go_enter func16,ntmps16;go_upto_region 4 with (first
  | (go_at_call 40;refine(Jc _ _ _ hD).mono ?_;rintro e w' ⟨rfl,rfl⟩)
  | (go_at_call 18;refine(Fs _ _).mono ?_;rintro e w' ⟨rfl,rfl⟩;rw[HW.out])
  | fail)
 rw[Ha.out,HG.out];go_wp2_with (go_at_call 41;refine hgb.mono ?_;rintro e w2 ⟨rfl,hk2⟩);go_ret2;have hks:=hka.thenN hk2;exact⟨gg,rfl,HR.out.keptN hks,hPn.kept (hk2.mono (fun _ _ h=>h.elim)),by have:=HG.out;omega,hks.mono (fun _ _ h=>h.elim)⟩
end Go.Proofs.YtgcgacjhkhjhmaaGreatDoor
