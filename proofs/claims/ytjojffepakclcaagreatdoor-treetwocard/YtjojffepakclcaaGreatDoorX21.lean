/- Part of the proof: contracts over the turned program. -/
import Derived.Test.YtjojffepakclcaaGreatDoorX18
set_option linter.unusedVariables false
set_option maxHeartbeats 4000000
open Go.Proofs.Tryz
namespace Go.Proofs.YtjojffepakclcaaGreatDoor
def updN(f:Nat->Nat)(i x:Nat):Nat->Nat:=fun k=>if k=i then x else f k
theorem AB(f:Nat->Nat)(i x:Nat):updN f i x i=x:=by simp[updN]
theorem Ba{f:Nat->Nat}{i x k:Nat}(h:k≠i):updN f i x k=f k:=by simp[updN,h]
def Seg(be ah:Nat->Nat):Nat->List Nat->Nat->Prop
 | x,[],y=>be x=y/\ah y=x
 | x,a::l,y=>be x=a/\ah a=x/\Seg be ah a l y
theorem Seg.split{be ah:Nat->Nat}(q:List Nat)(a:Nat):∀(p:List Nat) (x y:Nat),Seg be ah x (p++a::q) y↔Seg be ah x p a/\Seg be ah a q y
 | [],x,y=>by simp[Seg,and_assoc]
 | b::p,x,y=>by simp[Seg,Seg.split q a p b y,and_assoc]
theorem Seg.same{be ah be' ah':Nat->Nat}:∀(l:List Nat) (x y:Nat),Seg be ah x l y->(∀z∈x::l,be' z=be z)->(∀z∈l++[y],ah' z=ah z)->Seg be' ah' x l y
 | [],x,y,h,h1,h2=>⟨by rw[h1 x (by simp)];exact h.1,by rw[h2 y (by simp)];exact h.2⟩
 | a::l,x,y,h,h1,h2=>⟨by rw[h1 x (by simp)];exact h.1,by rw[h2 a (by simp)];exact h.2.1,Seg.same l a y h.2.2 (fun z hz=>h1 z (List.mem_cons_of_mem _ hz)) (fun z hz=>h2 z (List.mem_cons_of_mem _ hz))⟩
theorem Seg.first{be ah:Nat->Nat}{x y:Nat}{l:List Nat}(h:Seg be ah x l y):be x∈l++[y]:=by
 cases l with
 | nil=>rw[h.1];simp
 | cons a l=>rw[h.1];simp
theorem Seg.last{be ah:Nat->Nat}:∀(l:List Nat) (x y:Nat),Seg be ah x l y->ah y∈x::l
 | [],x,y,h=>by rw[h.2];simp
 | a::l,x,y,h=>List.mem_cons_of_mem _ (Seg.last l a y h.2.2)
theorem Seg.leave{be ah:Nat->Nat}(x:Nat)(q:List Nat)(t:Nat)(h2:Seg be ah x q t):∀(p:List Nat) (s:Nat),Seg be ah s p x->(s::(p++x::q)).Nodup->(∀z∈p++x::q,z≠t) ->
  Seg (updN be (ah x) (be x)) (updN ah (be x) (ah x)) s (p++q) t
 | [],s,h,hn,ht=>by
  obtain⟨a1,a2⟩:=h
  rw[a2]
  cases q with
  | nil =>
   obtain⟨b1,b2⟩:=h2
   exact⟨by rw[AB,b1],by rw[b1,AB]⟩
  | cons b q =>
   obtain⟨b1,b2,b3⟩:=h2
   rw[b1]
   refine⟨AB _ _ _,AB _ _ _,b3.same _ _ _ (fun z hz=>Ba ?_) (fun z hz=>Ba ?_)⟩
   ·rintro rfl
    simp at hn hz
    rcases hz with rfl|hz
    ·exact hn.1.2.1 rfl
    ·exact hn.1.2.2 hz
   ·rintro rfl
    simp at hn hz ht
    rcases hz with hz|rfl
    ·exact hn.2.2.1 hz
    ·exact ht.2.1 rfl
 | a::p,s,h,hn,ht=>by
  obtain⟨b1,b2,b3⟩:=h
  have hn':(a::(p++x::q)).Nodup:=by
   have:=List.nodup_cons.1 hn;exact this.2
  have ih:=Seg.leave x q t h2 p a b3 hn' (fun z hz=>ht z (List.mem_cons_of_mem _ hz));have l1:=Seg.last p a x b3;have l2:=Seg.first h2
  refine⟨?_,?_,ih⟩
  ·rw[Ba]
   ·exact b1
   ·rintro rfl;have:=(List.nodup_cons.1 hn).1;exact this (by
     rcases List.mem_cons.1 l1 with e|e
     ·exact e▸List.mem_cons_self
     ·exact List.mem_cons_of_mem _ (List.mem_append.2 (.inl e)))
  ·rw[Ba]
   ·exact b2
   ·rintro rfl;rcases List.mem_append.1 l2 with e|e
    ·have:=(List.nodup_cons.1 hn').1;exact this (List.mem_append.2 (.inr (List.mem_cons_of_mem _ e)))
    ·exact ht (be x) (by simp) (by simpa using e)
theorem Seg.join{be ah:Nat->Nat}{s x:Nat}{l:List Nat}(h:Seg be ah s l s)(hx:x ∉ s::l)(hs:s ∉ l)(hn:l.Nodup) :
  Seg (updN (updN be x (be s)) s x) (updN (updN ah x s) (be s) x) s (x::l) s:=by
 have hsx:x≠s:=fun e=>hx (by rw[e];simp);cases l with
 | nil =>
  obtain⟨b1,b2⟩:=h;rw[b1];exact⟨AB _ _ _,by rw[Ba hsx,AB],by rw[Ba hsx,AB],AB _ _ _⟩
 | cons b l =>
  obtain⟨b1,b2,b3⟩:=h;rw[b1];simp at hx hs hn;refine⟨AB _ _ _,by rw[Ba hx.2.1,AB],by rw[Ba hsx,AB],AB _ _ _,b3.same _ _ _ (fun z hz=>?_) (fun z hz=>?_)⟩
  ·rw[Ba,Ba]
   ·rintro rfl;simp at hz;rcases hz with rfl|hz
    ·exact hx.2.1 rfl
    ·exact hx.2.2 hz
   ·rintro rfl;simp at hz;rcases hz with rfl|hz
    ·exact hs.1 rfl
    ·exact hs.2 hz
  ·rw[Ba,Ba]
   ·rintro rfl;simp at hz;rcases hz with hz|rfl
    ·exact hx.2.2 hz
    ·exact hsx rfl
   ·rintro rfl;simp at hz;rcases hz with hz|rfl
    ·exact hn.1 hz
    ·exact hs.1 rfl
theorem Seg.back{be ah:Nat->Nat}{x y a:Nat}{l:List Nat}(h:Seg be ah x (l++[a]) y):ah y=a:=by
 rw[Seg.split]at h;exact h.2.2
def use(sz:Nat)(K:List Int)(n:Int):List Int:=if n∈K then n::K.erase n else (n::K).take sz
end Go.Proofs.YtjojffepakclcaaGreatDoor
namespace Go.Proofs.YtjojffepakclcaaGreatDoor
open Go.RowKit
def Cb(w:World)(k:Nat):Prop:=∃cs t,w.heap[k]?=some (.cells cs t (0,0))
theorem Cb.lt{w:World}{k:Nat}(h:Cb w k):k<w.heap.size:=by
 obtain⟨cs,t,h⟩:=h;exact(Array.getElem?_eq_some_iff.1 h).1
theorem Cb.kept{w w':World}{k:Nat}{S:Nat->Prop}(h:Cb w k)(hk:Kp S w w')(hS:¬S k):Cb w' k:=by
 have hl:=h.lt;obtain⟨cs,t,h⟩:=h;exact⟨cs,t,by rw[hk.block k hl hS];exact h⟩
theorem Cb.set{w:World}{k:Nat}(h:Cb w k)(b o:Nat)(u:Value):Cb (w.setCell ⟨b,o,none⟩ u) k:=by
 obtain⟨cs,t,h⟩:=h;by_cases e:k=b
 ·subst e;exact⟨_,_,heap_setCell_same w k o cs t u h⟩
 ·exact⟨cs,t,by rw[heap_setCell_other w _ k u e];exact h⟩
structure Put (w w':World) (b o:Nat) (u:Value):Prop where
 same:w'.cell? ⟨b,o,none⟩=some u
 old:∀k j,(k≠b\/j≠o)->w'.cell? ⟨k,j,none⟩=w.cell? ⟨k,j,none⟩
 fr:∀k j,w'.frozen? ⟨k,j,none⟩=w.frozen? ⟨k,j,none⟩
 kp:Kp (only b) w w'
 sz:w'.heap.size=w.heap.size
 bl:∀k,Cb w k->Cb w' k
theorem Put.set(w:World)(b o:Nat)(u x:Value)(h:w.cell? ⟨b,o,none⟩=some x):Put w (w.setCell ⟨b,o,none⟩ u) b o u :=
 ⟨World.cell?_setCell_same _ _ _ h,fun k j hk=>by
  rw[World.cell?_setCell_other (h:=fun e=>by
   have e1:=congrArg Addr.block e
   have e2:=congrArg Addr.off e
   simp at e1 e2
   omega)],fun k j=>by rw[World.frozen?_setCell],Kp.setCell _ _ _ _ rfl,by simp,fun k h=>h.set b o u⟩
theorem Put.drew{w w':World}{b o:Nat}{u:Value}(h:Put w w' b o u):Put w w'.drew b o u:=⟨h.same,h.old,h.fr,h.kp.thenN (Kp.drew _ _),h.sz,h.bl⟩
theorem Am(w:World)(cs:Array Value)(t:TypeId)(j:Nat)(v:Value)(h:cs[j]?=some v):(w.alloc (.cells cs t)).cell? ⟨w.heap.size,j,none⟩=some v:=by
 have hb:(w.alloc (.cells cs t)).heap[w.heap.size]?=some (.cells cs t (0,0)):=heap_alloc_new w _;rw[cell_of_row _ _ _ _ _ _ hb];exact h
theorem CK(w:World)(cs:Array Value)(t:TypeId)(j:Nat):(w.alloc (.cells cs t)).frozen? ⟨w.heap.size,j,none⟩=false:=by
 have hb:(w.alloc (.cells cs t)).heap[w.heap.size]?=some (.cells cs t (0,0)):=heap_alloc_new w _;unfold World.frozen?;rw[show (w.alloc (.cells cs t)).heap[(⟨w.heap.size,j,none⟩:Addr).block]?=_ from hb];simp
structure Lk (w:World) (x:Nat) (n:Int) (d:ByteArray) (a b:Nat):Prop where
 c0:w.cell? ⟨x,0,none⟩=some (.int .i64 n)
 c1:w.cell? ⟨x,1,none⟩=some (.string d)
 c2:w.cell? ⟨x,2,none⟩=some (.pointer (some ⟨a,0,none⟩))
 c3:w.cell? ⟨x,3,none⟩=some (.pointer (some ⟨b,0,none⟩))
 fr:∀j,w.frozen? ⟨x,j,none⟩=false
 bl:Cb w x
theorem Lk.lt{w:World}{x:Nat}{n:Int}{d:ByteArray}{a b:Nat}(h:Lk w x n d a b):x<w.heap.size:=lt_of_cell h.c0
theorem Lk.kept{w w':World}{x:Nat}{n:Int}{d:ByteArray}{a b:Nat}{S:Nat->Prop}(h:Lk w x n d a b)(hk:Kp S w w')(hx:¬S x):Lk w' x n d a b :=
 ⟨hk.cell h.c0 hx,hk.cell h.c1 hx,hk.cell h.c2 hx,hk.cell h.c3 hx,fun j=>by rw[hk.frozen h.lt hx];exact h.fr j,h.bl.kept hk hx⟩
def RM(w:World)(B:List Nat)(N:Nat->Int)(D:Nat->ByteArray)(ah be:Nat->Nat):Prop:=∀x∈B,Lk w x (N x) (D x) (ah x) (be x)
theorem RM.kept{w w':World}{B:List Nat}{N:Nat->Int}{D:Nat->ByteArray}{ah be:Nat->Nat}{S:Nat->Prop}(h:RM w B N D ah be)(hk:Kp S w w')(hS:∀x∈B,¬S x):RM w' B N D ah be:=fun x hx=>(h x hx).kept hk (hS x hx)
theorem RM.sub{w:World}{B C:List Nat}{N:Nat->Int}{D:Nat->ByteArray}{ah be:Nat->Nat}(h:RM w B N D ah be)(hC:∀x∈C,x∈B):RM w C N D ah be:=fun x hx=>h x (hC x hx)
theorem RM.putB{w w':World}{B:List Nat}{N:Nat->Int}{D:Nat->ByteArray}{ah be:Nat->Nat}(h:RM w B N D ah be){a b:Nat}(hp:Put w w' a 3 (.pointer (some ⟨b,0,none⟩))):RM w' B N D ah (updN be a b):=fun x hx=>by
 have q:=h x hx
 refine⟨by rw[hp.old _ _ (.inr (by omega))];exact q.c0,by rw[hp.old _ _ (.inr (by omega))];exact q.c1,by rw[hp.old _ _ (.inr (by omega))];exact q.c2,?_,fun j=>by rw[hp.fr];exact q.fr j,hp.bl _ q.bl⟩
 by_cases e:x=a
 ·subst e;rw[AB];exact hp.same
 ·rw[Ba e,hp.old _ _ (.inl e)];exact q.c3
theorem RM.putA{w w':World}{B:List Nat}{N:Nat->Int}{D:Nat->ByteArray}{ah be:Nat->Nat}(h:RM w B N D ah be){a b:Nat}(hp:Put w w' a 2 (.pointer (some ⟨b,0,none⟩))):RM w' B N D (updN ah a b) be:=fun x hx=>by
 have q:=h x hx
 refine⟨by rw[hp.old _ _ (.inr (by omega))];exact q.c0,by rw[hp.old _ _ (.inr (by omega))];exact q.c1,?_,by rw[hp.old _ _ (.inr (by omega))];exact q.c3,fun j=>by rw[hp.fr];exact q.fr j,hp.bl _ q.bl⟩
 by_cases e:x=a
 ·subst e;rw[AB];exact hp.same
 ·rw[Ba e,hp.old _ _ (.inl e)];exact q.c2
set_option maxRecDepth 100000 in
theorem Kf(x a b:Nat)(w:World)(va vb:Value)(h2:w.cell? ⟨x,2,none⟩=some (.pointer (some ⟨a,0,none⟩)))(h3:w.cell? ⟨x,3,none⟩=some (.pointer (some ⟨b,0,none⟩)))
  (ha:w.cell? ⟨a,3,none⟩=some va) (hfa:w.frozen? ⟨a,3,none⟩=false) (hb:w.cell? ⟨b,2,none⟩=some vb) (hfb:w.frozen? ⟨b,2,none⟩=false) :
  Calls prog 115 #[.pointer (some ⟨x,0,none⟩)] w fun e w'=>e=.returned (.tuple #[])/\∃w1,Put w w1 a 3 (.pointer (some ⟨b,0,none⟩))/\Put w1 w' b 2 (.pointer (some ⟨a,0,none⟩)):=by
 have p1:=Put.set w a 3 (.pointer (some ⟨b,0,none⟩)) va ha;have hb1:(w.setCell ⟨a,3,none⟩ (.pointer (some ⟨b,0,none⟩))).cell? ⟨b,2,none⟩=some vb:=by rw[p1.old _ _ (.inr (by omega))];exact hb
 have hf1:(w.setCell ⟨a,3,none⟩ (.pointer (some ⟨b,0,none⟩))).frozen? ⟨b,2,none⟩=false:=by rw[p1.fr];exact hfb
 go_enter func115,ntmps115;go_region;all_goals go_wp2
 all_goals first|go_end0|((try simp only[Exit.inBlock,Exit.then]);refine bodyPost_ret (results_none rfl _ _ _) rfl ?_)
 all_goals exact⟨rfl,_,p1,(Put.set _ b 2 _ vb hb1).drew⟩
set_option maxRecDepth 100000 in
theorem LD(s x b:Nat)(w:World)(v2 v3 vb:Value)(hs:w.cell? ⟨s,3,none⟩=some (.pointer (some ⟨b,0,none⟩)))(hfs:w.frozen? ⟨s,3,none⟩=false)
  (h2:w.cell? ⟨x,2,none⟩=some v2) (hf2:w.frozen? ⟨x,2,none⟩=false) (h3:w.cell? ⟨x,3,none⟩=some v3) (hf3:w.frozen? ⟨x,3,none⟩=false)
  (hb:w.cell? ⟨b,2,none⟩=some vb) (hfb:w.frozen? ⟨b,2,none⟩=false) (hxs:x≠s) (hxb:x≠b) :
  Calls prog 116 #[.agg #[.pointer (some ⟨s,0,none⟩)],.pointer (some ⟨x,0,none⟩)] w fun e w'=>e=.returned (.tuple #[])/\∃w0 w1 w2 w3,Kp none' w w0/\Put w0 w1 x 2 (.pointer (some ⟨s,0,none⟩))/\Put w1 w2 x 3 (.pointer (some ⟨b,0,none⟩)) /\
   Put w2 w3 s 3 (.pointer (some ⟨x,0,none⟩))/\Put w3 w' b 2 (.pointer (some ⟨x,0,none⟩)):=by
 have hk:=Kp.alloc none' w (.cells #[.pointer (some ⟨s,0,none⟩)] 125);obtain⟨g,HG⟩:∃g,Hid (w.heap.size=g):=⟨_,rfl⟩;have hg:(w.alloc (.cells #[.pointer (some ⟨s,0,none⟩)] 125)).cell? ⟨g,0,none⟩=some (.pointer (some ⟨s,0,none⟩)):=by rw[<-HG.out];exact Am _ _ _ _ _ rfl
 go_enter func116,ntmps116;go_upto_region 1 with fail;obtain⟨W,HW⟩:∃W,Hid (w.alloc (.cells #[.pointer (some ⟨s,0,none⟩)] 125)=W):=⟨_,rfl⟩;rw[HW.out]at hk hg |-;rw[HG.out];have fz:∀{q j:Nat} {y:Value},w.cell? ⟨q,j,none⟩=some y->w.frozen? ⟨q,j,none⟩=false->W.frozen? ⟨q,j,none⟩=false:=fun hc hf=>by rw[hk.frozen (lt_of_cell hc) (fun h=>h)];exact hf
 have qs:=hk.cell hs (fun h=>h);have fs:=fz hs hfs;have q2:=hk.cell h2 (fun h=>h);have f2:=fz h2 hf2;have q3:=hk.cell h3 (fun h=>h);have f3:=fz h3 hf3;have qb:=hk.cell hb (fun h=>h);have fb:=fz hb hfb;clear fz hs hfs h2 hf2 h3 hf3 hb hfb;have p1:=Put.set W x 2 (.pointer (some ⟨s,0,none⟩)) v2 q2;have q3':(W.setCell ⟨x,2,none⟩ (.pointer (some ⟨s,0,none⟩))).cell? ⟨x,3,none⟩=some v3:=by rw[p1.old _ _ (.inr (by omega))];exact q3
 have f3':(W.setCell ⟨x,2,none⟩ (.pointer (some ⟨s,0,none⟩))).frozen? ⟨x,3,none⟩=false:=by rw[p1.fr];exact f3
 have p2:=(Put.set (W.setCell ⟨x,2,none⟩ (.pointer (some ⟨s,0,none⟩))) x 3 (.pointer (some ⟨b,0,none⟩)) v3 q3').drew;go_region;all_goals (
  obtain⟨W2,H2⟩:∃W2,Hid (((W.setCell ⟨x,2,none⟩ (.pointer (some ⟨s,0,none⟩))).setCell ⟨x,3,none⟩ (.pointer (some ⟨b,0,none⟩))).drew=W2):=⟨_,rfl⟩;rw[H2.out]at p2 |-;have r2:W2.cell? ⟨x,2,none⟩=some (.pointer (some ⟨s,0,none⟩)):=by rw[p2.old _ _ (.inr (by omega))];exact p1.same
  have r3:=p2.same;have rs:W2.cell? ⟨s,3,none⟩=some (.pointer (some ⟨b,0,none⟩)):=by rw[p2.old _ _ (.inl (Ne.symm hxs)),p1.old _ _ (.inl (Ne.symm hxs))];exact qs
  have es:W2.frozen? ⟨s,3,none⟩=false:=by rw[p2.fr,p1.fr];exact fs
  have rb:W2.cell? ⟨b,2,none⟩=some vb:=by rw[p2.old _ _ (.inl (Ne.symm hxb)),p1.old _ _ (.inl (Ne.symm hxb))];exact qb
  have eb:W2.frozen? ⟨b,2,none⟩=false:=by rw[p2.fr,p1.fr];exact fb
  have p3:=Put.set W2 s 3 (.pointer (some ⟨x,0,none⟩)) _ rs;have rb':(W2.setCell ⟨s,3,none⟩ (.pointer (some ⟨x,0,none⟩))).cell? ⟨b,2,none⟩=some vb:=by rw[p3.old _ _ (.inr (by omega))];exact rb
  have eb':(W2.setCell ⟨s,3,none⟩ (.pointer (some ⟨x,0,none⟩))).frozen? ⟨b,2,none⟩=false:=by rw[p3.fr];exact eb
  go_wp2;go_region;all_goals go_wp2
  all_goals first|go_end0|((try simp only[Exit.inBlock,Exit.then]);refine bodyPost_ret (results_none rfl _ _ _) rfl ?_)
  all_goals exact⟨rfl,W,_,W2,_,hk,p1,p2,p3,(Put.set _ b 2 _ vb rb').drew⟩)
structure Ring (w:World) (s:Nat) (L:List Nat) (N:Nat->Int) (D:Nat->ByteArray) (ah be:Nat->Nat):Prop where
 rm:RM w (s::L) N D ah be
 sg:Seg be ah s L s
 nd:(s::L).Nodup
theorem Ring.kept{w w':World}{s:Nat}{L:List Nat}{N:Nat->Int}{D:Nat->ByteArray}{ah be:Nat->Nat}{S:Nat->Prop}(h:Ring w s L N D ah be)(hk:Kp S w w')(hS:∀x∈s::L,¬S x):Ring w' s L N D ah be:=⟨h.rm.kept hk hS,h.sg,h.nd⟩
theorem Fb{w:World}{s x:Nat}{p q:List Nat}{N:Nat->Int}{D:Nat->ByteArray}{ah be:Nat->Nat}(h:Ring w s (p++x::q) N D ah be) :
  Calls prog 115 #[.pointer (some ⟨x,0,none⟩)] w fun e w'=>e=.returned (.tuple #[])/\∃ah' be',Ring w' s (p++q) N D ah' be'/\Lk w' x (N x) (D x) (ah x) (be x)/\Kp (fun k=>k∈s::(p++q)) w w'/\w'.heap.size=w.heap.size:=by
 have hx:=h.rm x (by simp);have hs:=(Seg.split q x p s s).1 h.sg;have la:=Seg.last p s x hs.1;have fb:=Seg.first hs.2
 have ma:ah x∈s::(p++q):=by
  rcases List.mem_cons.1 la with e|e
  ·rw[e];exact List.mem_cons_self
  ·exact List.mem_cons_of_mem _ (List.mem_append.2 (.inl e))
 have mb:be x∈s::(p++q):=by
  rcases List.mem_append.1 fb with e|e
  ·exact List.mem_cons_of_mem _ (List.mem_append.2 (.inr e))
  ·have e':be x=s:=by simpa using e
   rw[e'];exact List.mem_cons_self
 have sub:∀z∈s::(p++q),z∈s::(p++x::q):=fun z hz=>by
  simp only[List.mem_cons,List.mem_append]at hz |-;rcases hz with e|e|e
  ·exact .inl e
  ·exact .inr (.inl e)
  ·exact .inr (.inr (.inr e))
 have hnx:x ∉ s::(p++q):=by
  intro hz;have hn:=h.nd;simp only[List.nodup_cons,List.nodup_append,List.mem_append,List.mem_cons]at hn hz;rcases hz with e|e|e
  ·exact hn.1 (.inr (.inl e.symm))
  ·exact hn.2.2.2 x e x (.inl rfl) rfl
  ·exact hn.2.2.1.1 e
 have ka:=h.rm _ (sub _ ma);have kb:=h.rm _ (sub _ mb);refine(Kf x (ah x) (be x) w _ _ hx.c2 hx.c3 ka.c3 (ka.fr 3) kb.c2 (kb.fr 2)).mono ?_;rintro e w' ⟨rfl,w1,p1,p2⟩;have hst:∀z∈p++x::q,z≠s:=fun z hz e=>by
  have:=(List.nodup_cons.1 h.nd).1;rw[e]at hz;exact this hz
 have hk:Kp (fun k=>k∈s::(p++q)) w w':=p1.kp.trans p2.kp (fun k _ e=>by rw[show k=ah x from e];exact ma) (fun k _ e=>by rw[show k=be x from e];exact mb);refine⟨rfl,_,_,⟨(h.rm.sub sub).putB p1 |>.putA p2,Seg.leave x q s hs.2 p s hs.1 h.nd hst,?_⟩,hx.kept hk hnx,hk,by rw[p2.sz,p1.sz]⟩;exact h.nd.sublist (List.Sublist.cons_cons _ (List.Sublist.append (List.Sublist.refl _) (List.sublist_cons_self _ _)))
theorem FQ{w:World}{s x:Nat}{L:List Nat}{N:Nat->Int}{D:Nat->ByteArray}{ah be:Nat->Nat}(h:Ring w s L N D ah be)(c0:w.cell? ⟨x,0,none⟩=some (.int .i64 (N x)))(c1:w.cell? ⟨x,1,none⟩=some (.string (D x)))
  {v2 v3:Value} (c2:w.cell? ⟨x,2,none⟩=some v2) (c3:w.cell? ⟨x,3,none⟩=some v3) (cf:∀j,w.frozen? ⟨x,j,none⟩=false) (cb:Cb w x) (hn:x ∉ s::L) :
  Calls prog 116 #[.agg #[.pointer (some ⟨s,0,none⟩)],.pointer (some ⟨x,0,none⟩)] w fun e w'=>e=.returned (.tuple #[])/\∃ah' be',Ring w' s (x::L) N D ah' be'/\Kp (fun k=>k∈s::x::L) w w':=by
 have hs:=h.rm s (by simp);have mb:be s∈s::L:=by
  rcases List.mem_append.1 (Seg.first h.sg)with e|e
  ·exact List.mem_cons_of_mem _ e
  ·have e':be s=s:=by simpa using e
   rw[e'];exact List.mem_cons_self
 have kb:=h.rm _ mb;have hxs:x≠s:=fun e=>hn (by rw[e];exact List.mem_cons_self);have hxb:x≠be s:=fun e=>hn (by rw[e];exact mb);refine(LD s x (be s) w _ _ _ hs.c3 (hs.fr 3) c2 (cf 2) c3 (cf 3) kb.c2 (kb.fr 2) hxs hxb).mono ?_;rintro e w' ⟨rfl,w0,w1,w2,w3,hk,p1,p2,p3,p4⟩;have hnd:=List.nodup_cons.1 h.nd;have r2:=((h.rm.kept hk (fun _ _ h=>h)).putA p1).putB p2
 have hx2:Lk w2 x (N x) (D x) s (be s):=⟨by rw[p2.old _ _ (.inr (by omega)),p1.old _ _ (.inr (by omega))];exact hk.cell c0 (fun h=>h),by rw[p2.old _ _ (.inr (by omega)),p1.old _ _ (.inr (by omega))];exact hk.cell c1 (fun h=>h),
  by rw[p2.old _ _ (.inr (by omega))];exact p1.same,p2.same,fun j=>by rw[p2.fr,p1.fr,hk.frozen (lt_of_cell c0) (fun h=>h)];exact cf j,p2.bl _ (p1.bl _ (cb.kept hk (fun h=>h)))⟩
 have all:RM w2 (s::x::L) N D (updN ah x s) (updN be x (be s)):=fun z hz=>by
  by_cases e:z=x
  ·subst e;rw[AB,AB];exact hx2
  ·refine r2 z ?_;simp only[List.mem_cons]at hz |-;rcases hz with h1|h1|h1
   ·exact .inl h1
   ·exact absurd h1 e
   ·exact .inr h1
 refine⟨rfl,_,_,⟨(all.putB p3).putA p4,Seg.join h.sg hn hnd.1 hnd.2,?_⟩,?_⟩
 ·simp only[List.nodup_cons,List.mem_cons,not_or]at hnd hn |-;exact⟨⟨Ne.symm hxs,hnd.1⟩,hn.2,hnd.2⟩
 ·have m1:x∈s::x::L:=by simp
  have m2:s∈s::x::L:=by simp
  have m3:be s∈s::x::L:=by
   simp only[List.mem_cons]at mb |-;rcases mb with h1|h1
   ·exact .inl h1
   ·exact .inr (.inr h1)
  exact(((hk.mono (fun _ _ h=>h.elim)).then (p1.kp.mono (fun k _ e=>by rw[show k=x from e];exact m1))).then (p2.kp.mono (fun k _ e=>by rw[show k=x from e];exact m1))).then (p3.kp.mono (fun k _ e=>by rw[show k=s from e];exact m2)) |>.then (p4.kp.mono (fun k _ e=>by rw[show k=be s from e];exact m3))
theorem LV{w:World}{s x a b:Nat}{L:List Nat}{N:Nat->Int}{D:Nat->ByteArray}{ah be:Nat->Nat}(h:Ring w s L N D ah be)(hx:Lk w x (N x) (D x) a b)(hn:x ∉ s::L) :
  Calls prog 116 #[.agg #[.pointer (some ⟨s,0,none⟩)],.pointer (some ⟨x,0,none⟩)] w fun e w'=>e=.returned (.tuple #[])/\∃ah' be',Ring w' s (x::L) N D ah' be'/\Kp (fun k=>k∈s::x::L) w w':=FQ h hx.c0 hx.c1 hx.c2 hx.c3 hx.fr hx.bl hn
set_option maxRecDepth 100000 in
theorem Mn(s a:Nat)(w:World)(h2:w.cell? ⟨s,2,none⟩=some (.pointer (some ⟨a,0,none⟩))) :
  Calls prog 160 #[.agg #[.pointer (some ⟨s,0,none⟩)]] w fun e w'=>e=.returned (.pointer (some ⟨a,0,none⟩))/\Kp none' w w':=by
 have hk:=Kp.alloc none' w (.cells #[.pointer (some ⟨s,0,none⟩)] 125);have hg:=Am w #[.pointer (some ⟨s,0,none⟩)] 125 0 _ rfl;have h2':=hk.cell h2 (fun h=>h);go_enter func160,ntmps160;go_wp2;go_ret;exact⟨rfl,hk⟩
theorem Mt{w:World}{s x:Nat}{L:List Nat}{N:Nat->Int}{D:Nat->ByteArray}{ah be:Nat->Nat}(h:Ring w s (L++[x]) N D ah be) :
  Calls prog 160 #[.agg #[.pointer (some ⟨s,0,none⟩)]] w fun e w'=>e=.returned (.pointer (some ⟨x,0,none⟩))/\Kp none' w w':=by
 have:=(h.rm s (by simp)).c2;rw[Seg.back h.sg]at this;exact Mn s x w this
def updF'{α:Type}(f:Nat->α)(i:Nat)(x:α):Nat->α:=fun k=>if k=i then x else f k
theorem RM.congr{w:World}{B:List Nat}{N N':Nat->Int}{D D':Nat->ByteArray}{ah be:Nat->Nat}(h:RM w B N D ah be)(hN:∀x∈B,N' x=N x)(hD:∀x∈B,D' x=D x):RM w B N' D' ah be:=fun x hx=>by
 rw[hN x hx,hD x hx];exact h x hx
set_option maxRecDepth 100000 in
theorem Ou{w:World}{s:Nat}{L:List Nat}{N:Nat->Int}{D:Nat->ByteArray}{ah be:Nat->Nat}(n:Int)(d:ByteArray)(h:Ring w s L N D ah be) :
  Calls prog 118 #[.agg #[.pointer (some ⟨s,0,none⟩)],.agg #[.int .i64 n,.string d]] w fun e w'=>∃x ah' be',e=.returned (.pointer (some ⟨x,0,none⟩))/\w.heap.size<=x/\Ring w' s (x::L) (updF' N x n) (updF' D x d) ah' be'/\Kp (fun k=>k∈s::L) w w':=by
 have k1:=Kp.alloc none' w (.cells #[.pointer (some ⟨s,0,none⟩)] 125);have r1:=Am w #[.pointer (some ⟨s,0,none⟩)] 125 0 _ rfl;have e1:(w.alloc (.cells #[.pointer (some ⟨s,0,none⟩)] 125)).heap.size=w.heap.size+1:=by simp
 obtain⟨W1,H1⟩:∃W1,Hid (w.alloc (.cells #[.pointer (some ⟨s,0,none⟩)] 125)=W1):=⟨_,rfl⟩;rw[H1.out]at k1 r1 e1;have k2:=Kp.alloc none' W1 (.cells #[.int .i64 n,.string d] 128);have e2:(W1.alloc (.cells #[.int .i64 n,.string d] 128)).heap.size=w.heap.size+1+1:=by simp[e1]
 obtain⟨W2,H2⟩:∃W2,Hid (W1.alloc (.cells #[.int .i64 n,.string d] 128)=W2):=⟨_,rfl⟩;rw[H2.out]at k2 e2;have k3:=Kp.alloc none' W2 (.cells #[.int .i64 n,.string d,.pointer none,.pointer none] 159);have c0:=Am W2 #[.int .i64 n,.string d,.pointer none,.pointer none] 159 0 _ rfl;have c1:=Am W2 #[.int .i64 n,.string d,.pointer none,.pointer none] 159 1 _ rfl;have c2:=Am W2 #[.int .i64 n,.string d,.pointer none,.pointer none] 159 2 _ rfl
 have c3:=Am W2 #[.int .i64 n,.string d,.pointer none,.pointer none] 159 3 _ rfl;have cf:=CK W2 #[.int .i64 n,.string d,.pointer none,.pointer none] 159;have cb:Cb (W2.alloc (.cells #[.int .i64 n,.string d,.pointer none,.pointer none] 159)) W2.heap.size:=⟨_,_,heap_alloc_new W2 _⟩;rw[e2]at c0 c1 c2 c3 cf cb;obtain⟨x,HX⟩:∃x,Hid (w.heap.size+1+1=x):=⟨_,rfl⟩;rw[HX.out]at c0 c1 c2 c3 cf cb
 obtain⟨W3,H3⟩:∃W3,Hid (W2.alloc (.cells #[.int .i64 n,.string d,.pointer none,.pointer none] 159)=W3):=⟨_,rfl⟩;rw[H3.out]at k3 c0 c1 c2 c3 cf cb;have kw:=(k1.then k2).then k3;have hx:w.heap.size<=x:=by have:=HX.out;omega
 have hxl:x ∉ s::L:=fun hm=>by
  have:=(h.rm x hm).lt;omega
 have r1':=(k2.then k3).cell r1 (fun h=>h);have hR:=h.kept kw (fun _ _ h=>h);have hN:∀z∈s::L,updF' N x n z=N z:=fun z hz=>by unfold updF';rw[if_neg (fun e=>hxl (by rw[<-e];exact hz))]
 have hD:∀z∈s::L,updF' D x d z=D z:=fun z hz=>by unfold updF';rw[if_neg (fun e=>hxl (by rw[<-e];exact hz))]
 have hR':Ring W3 s L (updF' N x n) (updF' D x d) ah be:=⟨hR.rm.congr hN hD,hR.sg,hR.nd⟩;have hj:=FQ hR' (by show W3.cell? ⟨x,0,none⟩=_;rw[c0];simp[updF']) (by rw[c1];simp[updF']) c2 c3 cf cb hxl;go_enter func118,ntmps118;go_upto_region 2 with fail;rw[H1.out,H2.out,H3.out,HX.out];go_wp2_with (first
  | (go_at_call 116;refine hj.mono ?_;rintro e w4 ⟨rfl,ah4,be4,hR4,hk4⟩)
  | fail)
 go_ret;exact⟨x,ah4,be4,rfl,hx,hR4,kw.trans hk4 (fun _ _ h=>h.elim) (fun k hk hm=>by
  simp only[List.mem_cons]at hm |-;rcases hm with e|e|e
  ·exact .inl e
  ·omega
  ·exact .inr e)⟩
theorem GM{fn:Func}{p:Tmp}(h:fn.results=#[.cell p 125])(tmps:Array Value)(g:Nat)(W:World)(s:Nat)(hp:tmps.getD p undef=.pointer (some ⟨g,0,none⟩))(hb:W.heap[g]?=some (.cells #[.pointer (some ⟨s,0,none⟩)] 125 (0,0))) :
  (results fn tmps).run prog W=.ok (.agg #[.pointer (some ⟨s,0,none⟩)]) W:=by
 exact results_cell_row h tmps W g _ _ _ _ hp hb underlying125 rfl (by kernel_rfl)
set_option maxRecDepth 100000 in
theorem I1(w:World) :
  Calls prog 54 #[] w fun e w'=>∃s,e=.returned (.agg #[.pointer (some ⟨s,0,none⟩)])/\w.heap.size<=s/\Ring w' s [] (fun _=>0) (fun _=>⟨#[]⟩) (fun _=>s) (fun _=>s)/\Kp none' w w':=by
 go_enter func54,ntmps54;go_wp2;have k1:=Kp.alloc none' w (.cells #[.pointer (some ⟨w.heap.size+1,0,none⟩)] 125);have r1:(w.alloc (.cells #[.pointer (some ⟨w.heap.size+1,0,none⟩)] 125)).heap[w.heap.size]?=some (.cells #[.pointer (some ⟨w.heap.size+1,0,none⟩)] 125 (0,0)):=heap_alloc_new w _;have e1:(w.alloc (.cells #[.pointer (some ⟨w.heap.size+1,0,none⟩)] 125)).heap.size=w.heap.size+1:=by simp
 obtain⟨W1,H1⟩:∃W1,Hid (w.alloc (.cells #[.pointer (some ⟨w.heap.size+1,0,none⟩)] 125)=W1):=⟨_,rfl⟩;rw[H1.out]at k1 r1 e1 |-;have k3:=Kp.alloc none' W1 (.cells #[.int .i64 0,.string ⟨#[]⟩,.pointer (some ⟨w.heap.size+1,0,none⟩),.pointer (some ⟨w.heap.size+1,0,none⟩)] 159);have c0:=Am W1 #[.int .i64 0,.string ⟨#[]⟩,.pointer (some ⟨w.heap.size+1,0,none⟩),.pointer (some ⟨w.heap.size+1,0,none⟩)] 159 0 _ rfl
 have c1:=Am W1 #[.int .i64 0,.string ⟨#[]⟩,.pointer (some ⟨w.heap.size+1,0,none⟩),.pointer (some ⟨w.heap.size+1,0,none⟩)] 159 1 _ rfl;have c2:=Am W1 #[.int .i64 0,.string ⟨#[]⟩,.pointer (some ⟨w.heap.size+1,0,none⟩),.pointer (some ⟨w.heap.size+1,0,none⟩)] 159 2 _ rfl;have c3:=Am W1 #[.int .i64 0,.string ⟨#[]⟩,.pointer (some ⟨w.heap.size+1,0,none⟩),.pointer (some ⟨w.heap.size+1,0,none⟩)] 159 3 _ rfl
 have cf:=CK W1 #[.int .i64 0,.string ⟨#[]⟩,.pointer (some ⟨w.heap.size+1,0,none⟩),.pointer (some ⟨w.heap.size+1,0,none⟩)] 159;have cb:Cb (W1.alloc (.cells #[.int .i64 0,.string ⟨#[]⟩,.pointer (some ⟨w.heap.size+1,0,none⟩),.pointer (some ⟨w.heap.size+1,0,none⟩)] 159)) W1.heap.size:=⟨_,_,heap_alloc_new W1 _⟩;rw[e1]at c0 c1 c2 c3 cf cb;have r1':=k3.block w.heap.size (by omega) (fun h=>h);rw[r1]at r1'
 obtain⟨W3,H3⟩:∃W3,Hid (W1.alloc (.cells #[.int .i64 0,.string ⟨#[]⟩,.pointer (some ⟨w.heap.size+1,0,none⟩),.pointer (some ⟨w.heap.size+1,0,none⟩)] 159)=W3):=⟨_,rfl⟩;rw[H3.out]at k3 c0 c1 c2 c3 cf cb r1' |-;refine bodyPost_ret (GM rfl _ w.heap.size _ (w.heap.size+1) rfl r1') rfl ?_;refine⟨w.heap.size+1,rfl,by omega,⟨fun x hx=>?_,⟨rfl,rfl⟩,by simp⟩,k1.then k3⟩;have:x=w.heap.size+1:=by simpa using hx
 subst this;exact⟨c0,c1,c2,c3,cf,cb⟩
end Go.Proofs.YtjojffepakclcaaGreatDoor
namespace Go.Proofs.YtjojffepakclcaaGreatDoor
open Go.RowKit
open Go.ChangeMaps (setBlock)
def delI(c:Int->Option Value)(z:Int):Int->Option Value:=fun k=>if k=z then none else c k
theorem MN{w:World}{m:Nat}{es:Array MapEntry}{cl:Nat}{c:Int->Option Value}{t e ty:TypeId}(ht:prog.underlying t=some (.map 3 e))(hm:w.heap[m]?=some (.map es cl))(h:Mi c es.toList cl)(z:Int) :
  ∃es' cl',(Builtin.delete_ #[t,3] ty #[.map (some m),.int .i64 z]).run prog w=.ok (.tuple #[]) (setBlock w m (.map es' cl'))/\Mi (delI c z) es'.toList cl':=by
 have h1:(#[t,3]:Array TypeId)[0]?=some t:=rfl;have h2:(#[Value.map (some m),.int .i64 z]:Array Value)[0]?=some (.map (some m)):=rfl;have h3:(#[Value.map (some m),.int .i64 z]:Array Value)[1]?=some (.int .i64 z):=rfl;rcases h.find z with ⟨q1,q2,q3⟩|⟨j,e,q1,q3,q4,q2⟩
 ·refine⟨es,cl,?_,?_⟩
  ·simp only[Builtin.delete_,h1,h2,h3,Sem.run_bind,run_underlying ht,Result.andThen_ok,MapKept.run_getObj_map hm,Sem.run_pure,Bt,Instr.findKey,run_underlying underlying3,q2,MapKept.run_setObj_map _ hm];rfl
  ·have:delI c z=c:=by
    funext k;unfold delI;split
    ·rename_i e;subst e;exact q1.symm
    ·rfl
   rw[this];exact h
 ·refine⟨es.eraseIdxIfInBounds j,cl,?_,?_⟩
  ·simp only[Builtin.delete_,h1,h2,h3,Sem.run_bind,run_underlying ht,Result.andThen_ok,MapKept.run_getObj_map hm,Sem.run_pure,Bt,Instr.findKey,run_underlying underlying3,q2,MapKept.run_setObj_map _ hm];rfl
  ·have hl:(es.eraseIdxIfInBounds j).toList=es.toList.eraseIdx j:=by simp
   rw[hl];have huniq:∀k e',es.toList[k]?=some e'->e'.key=.int .i64 z->k=j:=fun k e' hk hkey=>by
    have hp:=List.pairwise_iff_getElem.1 h.e3;obtain⟨lk,vk⟩:=List.getElem?_eq_some_iff.1 hk;obtain⟨lj,vj⟩:=List.getElem?_eq_some_iff.1 q3;rcases Nat.lt_trichotomy k j with hlt|heq|hgt
    ·exact absurd (by rw[vk,vj,hkey,q4]) (hp k j lk lj hlt)
    ·exact heq
    ·exact absurd (by rw[vk,vj,hkey,q4]) (hp j k lj lk hgt)
   have hsub:=List.eraseIdx_sublist es.toList j;refine⟨fun e' he'=>?_,fun k y hk=>?_,h.e3.sublist hsub,fun e' he'=>h.e4 e' (hsub.subset he'),h.e5.sublist (hsub.map _)⟩
   ·obtain⟨i,hi,hie⟩:=List.mem_eraseIdx_iff_getElem?.1 he';obtain⟨k,a,b⟩:=h.e1 e' (List.mem_of_getElem? hie);have hkz:k≠z:=fun e0=>hi (huniq i e' hie (by rw[a,e0]));exact⟨k,a,by simp[delI,hkz,b]⟩
   ·have hkz:k≠z:=fun e0=>by simp[delI,e0]at hk
    simp only[delI,hkz,if_false]at hk;obtain⟨e',he',hk'⟩:=h.e2 k y hk;obtain⟨i,hi⟩:=List.getElem?_of_mem he';refine⟨e',List.mem_eraseIdx_iff_getElem?.2 ⟨i,fun e0=>?_,hi⟩,hk'⟩;subst e0;rw[q3]at hi;cases hi
    rw[q4]at hk';exact hkz ((Value.int.inj hk').2).symm
def MapOf(L:List Nat)(N:Nat->Int)(c:Int->Option Value):Prop:=∀z v,c z=some v↔∃x∈L,N x=z/\v=.pointer (some ⟨x,0,none⟩)
theorem MapOf.noneOf{L:List Nat}{N:Nat->Int}{c:Int->Option Value}(h:MapOf L N c){z:Int}(hz:z ∉ L.map N):c z=none:=by
 cases hc:c z with
 | none=>rfl
 | some v =>
  obtain⟨x,hx,hn,_⟩:=(h z v).1 hc;exact absurd (List.mem_map.2 ⟨x,hx,hn⟩) hz
theorem MapOf.someOf{L:List Nat}{N:Nat->Int}{c:Int->Option Value}(h:MapOf L N c){x:Nat}(hx:x∈L):c (N x)=some (.pointer (some ⟨x,0,none⟩)):=(h _ _).2 ⟨x,hx,rfl,rfl⟩
theorem MapOf.size{L:List Nat}{N:Nat->Int}{c:Int->Option Value}{es:List MapEntry}{cl:Nat}(h:MapOf L N c)(hM:Mi c es cl)(hn:(L.map N).Nodup):es.length=L.length:=by
 have h1:(es.map (·.key)).Nodup:=by
  unfold List.Nodup;rw[List.pairwise_map];exact hM.e3
 have h2:((L.map N).map (Value.int .i64)).Nodup:=by
  unfold List.Nodup;rw[List.pairwise_map];refine List.Pairwise.imp ?_ hn;intro a b hab e;exact hab (Value.int.inj e).2
 have hp:=(List.perm_ext_iff_of_nodup h1 h2).2 (fun a=>by
  constructor
  ·intro ha;obtain⟨e,he,rfl⟩:=List.mem_map.1 ha;obtain⟨z,hz,hc⟩:=hM.e1 e he;obtain⟨x,hx,hn,_⟩:=(h z _).1 hc;exact List.mem_map.2 ⟨z,List.mem_map.2 ⟨x,hx,hn⟩,hz.symm⟩
  ·intro ha;obtain⟨z,hz,rfl⟩:=List.mem_map.1 ha;obtain⟨x,hx,rfl⟩:=List.mem_map.1 hz;obtain⟨e,he,hk⟩:=hM.e2 (N x) _ (h.someOf hx);exact List.mem_map.2 ⟨e,he,hk⟩)
 have:=hp.length_eq;simpa using this
structure Cq where
 c:Nat
 g:Nat
 s:Nat
 m:Nat
 p:Dp
 n:Nat
 sz:Nat
def Cq.foot(q:Cq)(L:List Nat)(k:Nat):Prop:=q.p.mem k\/k=q.g\/k=q.c\/k=q.m\/k∈q.s::L
structure Cc (w:World) (q:Cq) (h mi cm:Int):Prop where
 c0:w.cell? ⟨q.c,0,none⟩=some (.pointer (some ⟨q.g,0,none⟩))
 c1:w.cell? ⟨q.c,1,none⟩=some (.int .i64 (q.sz:Int))
 c2:w.cell? ⟨q.c,2,none⟩=some (.pointer (some ⟨q.s,0,none⟩))
 c3:w.cell? ⟨q.c,3,none⟩=some (.map (some q.m))
 c4:w.cell? ⟨q.c,4,none⟩=some (.int .i64 h)
 c5:w.cell? ⟨q.c,5,none⟩=some (.int .i64 mi)
 c6:w.cell? ⟨q.c,6,none⟩=some (.int .i64 cm)
 cf:∀j,w.frozen? ⟨q.c,j,none⟩=false
theorem Cc.lt{w:World}{q:Cq}{h mi cm:Int}(H:Cc w q h mi cm):q.c<w.heap.size:=lt_of_cell H.c0
theorem Cc.kept{w w':World}{q:Cq}{h mi cm:Int}{S:Nat->Prop}(H:Cc w q h mi cm)(hk:Kp S w w')(hS:¬S q.c):Cc w' q h mi cm :=
 ⟨hk.cell H.c0 hS,hk.cell H.c1 hS,hk.cell H.c2 hS,hk.cell H.c3 hS,hk.cell H.c4 hS,hk.cell H.c5 hS,hk.cell H.c6 hS,fun j=>by rw[hk.frozen H.lt hS];exact H.cf j⟩
theorem Cc.put4{w w':World}{q:Cq}{h h' mi cm:Int}(H:Cc w q h mi cm)(p:Put w w' q.c 4 (.int .i64 h')):Cc w' q h' mi cm :=
 ⟨by rw[p.old _ _ (.inr (by omega))];exact H.c0,by rw[p.old _ _ (.inr (by omega))];exact H.c1,by rw[p.old _ _ (.inr (by omega))];exact H.c2,by rw[p.old _ _ (.inr (by omega))];exact H.c3,p.same,
  by rw[p.old _ _ (.inr (by omega))];exact H.c5,by rw[p.old _ _ (.inr (by omega))];exact H.c6,fun j=>by rw[p.fr];exact H.cf j⟩
theorem Cc.put5{w w':World}{q:Cq}{h mi mi' cm:Int}(H:Cc w q h mi cm)(p:Put w w' q.c 5 (.int .i64 mi')):Cc w' q h mi' cm :=
 ⟨by rw[p.old _ _ (.inr (by omega))];exact H.c0,by rw[p.old _ _ (.inr (by omega))];exact H.c1,by rw[p.old _ _ (.inr (by omega))];exact H.c2,by rw[p.old _ _ (.inr (by omega))];exact H.c3,
  by rw[p.old _ _ (.inr (by omega))];exact H.c4,p.same,by rw[p.old _ _ (.inr (by omega))];exact H.c6,fun j=>by rw[p.fr];exact H.cf j⟩
def Mc(w:World)(m:Nat)(L:List Nat)(N:Nat->Int):Prop:=∃es cl c,w.heap[m]?=some (.map es cl)/\Mi c es.toList cl/\MapOf L N c
theorem Mc.kept{w w':World}{m:Nat}{L:List Nat}{N:Nat->Int}{S:Nat->Prop}(h:Mc w m L N)(hk:Kp S w w')(hS:¬S m):Mc w' m L N:=by
 obtain⟨es,cl,c,h1,h2,h3⟩:=h;exact⟨es,cl,c,by rw[hk.block m (Array.getElem?_eq_some_iff.1 h1).1 hS];exact h1,h2,h3⟩
theorem Mc.perm{w:World}{m:Nat}{L L':List Nat}{N:Nat->Int}(h:Mc w m L N)(hp:∀x,x∈L'↔x∈L):Mc w m L' N:=by
 obtain⟨es,cl,c,h1,h2,h3⟩:=h;exact⟨es,cl,c,h1,h2,fun z v=>by rw[h3];simp only[hp]⟩
structure Ca (w:World) (q:Cq) (D:Dv) (Q:Nat->ByteArray) (M cm:Int) (L:List Nat) (N:Nat->Int) (T:Nat->ByteArray) (h mi:Int):Prop where
 hR:Rest w q.p D q.n Q M
 st:D.st=false
 hP:Pag w q.g q.p q.n cm (.slice none 0 0) []
 cc:Cc w q h mi cm
 rg:∃ah be,Ring w q.s L N T ah be
 mc:Mc w q.m L N
 nd:(L.map N).Nodup
 da:∀x∈L,∃k:Nat,k<q.n/\N x=(k:Int)/\T x=Q k
 s1:∀k,q.p.mem k->k≠q.c/\k≠q.m/\k ∉ q.s::L
 s2:q.g≠q.c/\q.g≠q.m/\q.g ∉ q.s::L
 s3:q.c≠q.m/\q.c ∉ q.s::L
 s4:q.m ∉ q.s::L
 n2:q.n<=160
 hQ:∀p,(Q p).size=256
 sm:q.sz<=64
theorem Ca.lt{w:World}{q:Cq}{D:Dv}{Q:Nat->ByteArray}{M cm:Int}{L:List Nat}{N:Nat->Int}{T:Nat->ByteArray}{h mi:Int}(H:Ca w q D Q M cm L N T h mi)(k:Nat)(hk:q.foot L k):k<w.heap.size:=by
 rcases hk with e|e|e|e|e
 ·exact H.hR.hd.lt k e
 ·rw[e];exact H.hP.lt
 ·rw[e];exact H.cc.lt
 ·obtain⟨es,cl,c,h1,_⟩:=H.mc;rw[e];exact(Array.getElem?_eq_some_iff.1 h1).1
 ·obtain⟨ah,be,hr⟩:=H.rg;exact(hr.rm k e).lt
theorem Ca.kept{w w':World}{q:Cq}{D:Dv}{Q:Nat->ByteArray}{M cm:Int}{L:List Nat}{N:Nat->Int}{T:Nat->ByteArray}{h mi:Int}{S:Nat->Prop}(H:Ca w q D Q M cm L N T h mi)(hk:Kp S w w')(hS:∀k,q.foot L k->¬S k):Ca w' q D Q M cm L N T h mi:=by
 obtain⟨ah,be,hr⟩:=H.rg;have hP:Pag w' q.g q.p q.n cm (.slice none 0 0) [] :=
  ⟨hk.cell H.hP.c0 (hS _ (.inr (.inl rfl))),hk.cell H.hP.c1 (hS _ (.inr (.inl rfl))),hk.cell H.hP.c2 (hS _ (.inr (.inl rfl))),hk.cell H.hP.c3 (hS _ (.inr (.inl rfl))),fun j=>by rw[hk.frozen H.hP.lt (hS _ (.inr (.inl rfl)))];exact H.hP.fr j,Chs.nil _ _,H.hP.gp⟩
 exact⟨H.hR.kept hk (fun k hm=>hS k (.inl hm)),H.st,hP,H.cc.kept hk (hS _ (.inr (.inr (.inl rfl)))),⟨ah,be,hr.kept hk (fun x hx=>hS x (.inr (.inr (.inr (.inr hx)))))⟩,H.mc.kept hk (hS _ (.inr (.inr (.inr (.inl rfl))))),H.nd,H.da,H.s1,H.s2,H.s3,H.s4,H.n2,H.hQ,H.sm⟩
theorem Ca.keptN{w w':World}{q:Cq}{D:Dv}{Q:Nat->ByteArray}{M cm:Int}{L:List Nat}{N:Nat->Int}{T:Nat->ByteArray}{h mi:Int}(H:Ca w q D Q M cm L N T h mi)(hk:Kp none' w w'):Ca w' q D Q M cm L N T h mi:=H.kept hk (fun _ _ h=>h)
set_option maxRecDepth 100000 in
theorem De(c g:Nat)(w:World)(h0:w.cell? ⟨c,0,none⟩=some (.pointer (some ⟨g,0,none⟩))):Calls prog 80 #[.pointer (some ⟨c,0,none⟩)] w fun e w'=>e=.returned (.bool true)/\w'=w:=by
 go_enter func80,ntmps80;go_wp2;go_ret;exact⟨rfl,rfl⟩
set_option maxRecDepth 100000 in
theorem Ij(c g:Nat)(cm:Int)(w:World)(h0:w.cell? ⟨c,0,none⟩=some (.pointer (some ⟨g,0,none⟩)))(h6:w.cell? ⟨c,6,none⟩=some (.int .i64 cm))(hg:w.cell? ⟨g,2,none⟩=some (.int .i64 cm)) :
  Calls prog 114 #[.pointer (some ⟨c,0,none⟩)] w fun e w'=>e=.returned (.tuple #[])/\Kp none' w w':=by
 have hk:=Kp.alloc none' w (.cells #[.pointer (some ⟨c,0,none⟩)] 90);have r1:=Am w #[.pointer (some ⟨c,0,none⟩)] 90 0 _ rfl;obtain⟨b,HB⟩:∃b,Hid (w.heap.size=b):=⟨_,rfl⟩;rw[HB.out]at r1;go_enter func114,ntmps114;go_upto_region 1 with fail;rw[HB.out];obtain⟨W1,H1⟩:∃W1,Hid (w.alloc (.cells #[.pointer (some ⟨c,0,none⟩)] 90)=W1):=⟨_,rfl⟩;rw[H1.out]at hk r1 |-;have q0:=hk.cell h0 (fun h=>h);have q6:=hk.cell h6 (fun h=>h);have qg:=hk.cell hg (fun h=>h);have hcc:(cm==cm)=true:=by simp
 have qgd:W1.drew.cell? ⟨g,2,none⟩=some (.int .i64 cm):=qg;have t3:W1.drew.cell? ⟨b,0,none⟩=some (.pointer (some ⟨c,0,none⟩))/\W1.drew.cell? ⟨c,0,none⟩=some (.pointer (some ⟨g,0,none⟩))/\W1.drew.cell? ⟨c,6,none⟩=some (.int .i64 cm):=⟨r1,q0,q6⟩;go_region_held_law (fun W=>W.cell? ⟨b,0,none⟩=some (.pointer (some ⟨c,0,none⟩))/\W.cell? ⟨c,0,none⟩=some (.pointer (some ⟨g,0,none⟩))/\W.cell? ⟨c,6,none⟩=some (.int .i64 cm)) (first|assumption) (first
  | (go_at_call 55;refine(D3 g cm _ qgd).mono ?_;rintro e w' ⟨rfl,rfl⟩)
  | fail)
 go_wp2;first|go_end0|((try simp only[Exit.inBlock,Exit.then]);refine bodyPost_ret (results_none rfl _ _ _) rfl ?_)
 exact⟨rfl,hk.then (Kp.drew _ _)⟩
theorem Ca.rest{w w':World}{q:Cq}{D:Dv}{Q:Nat->ByteArray}{M cm:Int}{L:List Nat}{N:Nat->Int}{T:Nat->ByteArray}{h mi:Int}{S:Nat->Prop}(H:Ca w q D Q M cm L N T h mi)(hk:Kp S w w')(hS:∀k,q.p.mem k\/k=q.g->¬S k) :
  Rest w' q.p D q.n Q M/\Pag w' q.g q.p q.n cm (.slice none 0 0) [] :=
 ⟨H.hR.kept hk (fun k hm=>hS k (.inl hm)),⟨hk.cell H.hP.c0 (hS _ (.inr rfl)),hk.cell H.hP.c1 (hS _ (.inr rfl)),hk.cell H.hP.c2 (hS _ (.inr rfl)),hk.cell H.hP.c3 (hS _ (.inr rfl)),fun j=>by rw[hk.frozen H.hP.lt (hS _ (.inr rfl))];exact H.hP.fr j,Chs.nil _ _,H.hP.gp⟩⟩
theorem Ca.apart{w:World}{q:Cq}{D:Dv}{Q:Nat->ByteArray}{M cm:Int}{L:List Nat}{N:Nat->Int}{T:Nat->ByteArray}{h mi:Int}(H:Ca w q D Q M cm L N T h mi)(k:Nat)(hk:q.p.mem k\/k=q.g):k≠q.c/\k≠q.m/\k ∉ q.s::L:=by
 rcases hk with e|e
 ·exact H.s1 k e
 ·rw[e];exact H.s2
set_option maxRecDepth 100000 in
theorem O0{w:World}{q:Cq}{D:Dv}{Q:Nat->ByteArray}{M cm:Int}{p r:List Nat}{x:Nat}{N:Nat->Int}{T:Nat->ByteArray}{h mi:Int}(H:Ca w q D Q M cm (p++x::r) N T h mi)(h0:0<=h)(h1:h<=1000000000) :
  Calls prog 82 #[.pointer (some ⟨q.c,0,none⟩),.pointer (some ⟨x,0,none⟩)] w fun e w'=>e=.returned (.string (T x))/\Ca w' q D Q M cm (x::(p++r)) N T (h+1) mi/\Kp (q.foot (p++x::r)) w w':=by
 obtain⟨ah,be,hr⟩:=H.rg;have hcu:=Ij q.c q.g cm w H.cc.c0 H.cc.c6 H.hP.c2;have hc:q.c ∉ q.s::(p++x::r):=H.s3.2;have hw:wrap64 (h+1)=h+1:=by unfold wrap64;omega
 go_enter func82,ntmps82;go_upto_region 2 with (first
  | (go_at_call 114;refine hcu.mono ?_;rintro e w1 ⟨rfl,hk1⟩)
  | fail)
 have C1:=H.cc.kept hk1 (fun h=>h);have c4:=C1.c4;have f4:=C1.cf 4;have p4:=Put.set w1 q.c 4 (.int .i64 (h+1)) _ c4;have C2:=C1.put4 p4;have hk2:Kp (only q.c) w (w1.setCell ⟨q.c,4,none⟩ (.int .i64 (h+1))):=hk1.nThen p4.kp;have hr2:=hr.kept hk2 (fun y hy e=>hc (by rw[show y=q.c from e]at hy;exact hy));obtain⟨W2,HW2⟩:∃W2,Hid (w1.setCell ⟨q.c,4,none⟩ (.int .i64 (h+1))=W2):=⟨_,rfl⟩;rw[HW2.out]at C2 hk2 hr2;have hle:=Fb hr2;go_upto_region 4 with (first
  | (rw[HW2.out];go_at_call 115;refine hle.mono ?_;rintro e w3 ⟨rfl,ah3,be3,hr3,hx3,hk3,_⟩)
  | fail)
 have sub3:∀k,k∈q.s::(p++r)->k∈q.s::(p++x::r):=fun k hk=>by
  simp only[List.mem_cons,List.mem_append]at hk |-;rcases hk with e|e|e
  ·exact .inl e
  ·exact .inr (.inl e)
  ·exact .inr (.inr (.inr e))
 have hnx:x ∉ q.s::(p++r):=by
  intro hz;have hn:=hr.nd;simp only[List.nodup_cons,List.nodup_append,List.mem_append,List.mem_cons]at hn hz;rcases hz with e|e|e
  ·exact hn.1 (.inr (.inl e.symm))
  ·exact hn.2.2.2 x e x (.inl rfl) rfl
  ·exact hn.2.2.1.1 e
 have C3:=C2.kept hk3 (fun hm=>hc (sub3 _ hm));have hjo:=LV hr3 hx3 hnx;have d2:=C3.c2;go_upto_region 5 with (first
  | (go_at_call 116;refine hjo.mono ?_;rintro e w5 ⟨rfl,ah5,be5,hr5,hk5⟩)
  | fail)
 have sub5:∀k,k∈q.s::x::(p++r)->k∈q.s::(p++x::r):=fun k hk=>by
  simp only[List.mem_cons,List.mem_append]at hk |-;rcases hk with e|e|e|e
  ·exact .inl e
  ·exact .inr (.inr (.inl e))
  ·exact .inr (.inl e)
  ·exact .inr (.inr (.inr e))
 have sub6:∀k,k∈q.s::(p++x::r)->k∈q.s::x::(p++r):=fun k hk=>by
  simp only[List.mem_cons,List.mem_append]at hk |-;rcases hk with e|e|e|e
  ·exact .inl e
  ·exact .inr (.inr (.inl e))
  ·exact .inr (.inl e)
  ·exact .inr (.inr (.inr e))
 have C5:=C3.kept hk5 (fun hm=>hc (sub5 _ hm));have d1:=(hr5.rm x (by simp)).c1;have K5:Kp (fun k=>k=q.c\/k∈q.s::(p++x::r)) w w5:=((hk2.mono (fun k _ e=>.inl e)).then (hk3.mono (fun k _ e=>.inr (sub3 k e)))).then (hk5.mono (fun k _ e=>.inr (sub5 k e)));have hne:∀k,q.p.mem k\/k=q.g->¬(k=q.c\/k∈q.s::(p++x::r)):=fun k hk e=>by
  have:=H.apart k hk;rcases e with e|e
  ·exact this.1 e
  ·exact this.2.2 e
 have hRP:=H.rest K5 hne;have hm5:Mc w5 q.m (p++x::r) N:=H.mc.kept K5 (fun e=>by
  rcases e with e|e
  ·exact H.s3.1 e.symm
  ·exact H.s4 e)
 have hperm:∀y,y∈x::(p++r)↔y∈p++x::r:=fun y=>by simp only[List.mem_cons,List.mem_append];exact⟨fun h=>by rcases h with h|h|h;exact .inr (.inl h);exact .inl h;exact .inr (.inr h),fun h=>by rcases h with h|h|h;exact .inr (.inl h);exact .inl h;exact .inr (.inr h)⟩
 have hnd:((x::(p++r)).map N).Nodup:=by
  have:=H.nd;rw[List.map_append,List.map_cons]at this;rw[List.map_cons,List.map_append];exact(List.perm_middle.nodup_iff).1 this
 have hfin:Ca w5 q D Q M cm (x::(p++r)) N T (h+1) mi:=⟨hRP.1,H.st,hRP.2,C5,⟨ah5,be5,hr5⟩,hm5.perm hperm,hnd,fun y hy=>H.da y ((hperm y).1 hy),
  fun k hk=>⟨(H.s1 k hk).1,(H.s1 k hk).2.1,fun hm=>(H.s1 k hk).2.2 (sub5 k hm)⟩,⟨H.s2.1,H.s2.2.1,fun hm=>H.s2.2.2 (sub5 _ hm)⟩,⟨H.s3.1,fun hm=>H.s3.2 (sub5 _ hm)⟩,fun hm=>H.s4 (sub5 _ hm),H.n2,H.hQ,H.sm⟩
 have HF:=hide hfin;have HK:=hide K5;clear hfin K5;go_wp2;go_ret;exact⟨rfl,HF.out,HK.out.mono (fun k _ e=>by
  rcases e with e|e
  ·exact .inr (.inr (.inl e))
  ·exact .inr (.inr (.inr (.inr e))))⟩
theorem Mc.del{w':World}{m:Nat}{L:List Nat}{x:Nat}{N:Nat->Int}{es:Array MapEntry}{cl:Nat}{c:Int->Option Value}(hb:w'.heap[m]?=some (.map es cl))(hM:Mi (delI c (N x)) es.toList cl)(hO:MapOf (L++[x]) N c)(hnd:((L++[x]).map N).Nodup):Mc w' m L N:=by
 refine⟨es,cl,_,hb,hM,fun z v=>?_⟩;have hx:N x ∉ L.map N:=fun hm=>by
  rw[List.map_append,List.nodup_append]at hnd;exact hnd.2.2 _ hm (N x) (by simp) rfl
 constructor
 ·intro h;by_cases e:z=N x
  ·simp[delI,e]at h
  ·simp only[delI,e,if_false]at h;obtain⟨y,hy,h1,h2⟩:=(hO z v).1 h;rcases List.mem_append.1 hy with hy|hy
   ·exact⟨y,hy,h1,h2⟩
   ·have:y=x:=by simpa using hy
    subst this;exact absurd h1.symm e
 ·rintro ⟨y,hy,h1,h2⟩;have e:z≠N x:=fun e=>hx (by rw[<-e,<-h1];exact List.mem_map_of_mem hy);simp only[delI,e,if_false];exact(hO z v).2 ⟨y,List.mem_append.2 (.inl hy),h1,h2⟩
set_option maxRecDepth 100000 in
theorem GN{w:World}{q:Cq}{D:Dv}{Q:Nat->ByteArray}{M cm:Int}{L:List Nat}{x:Nat}{N:Nat->Int}{T:Nat->ByteArray}{h mi:Int}(H:Ca w q D Q M cm (L++[x]) N T h mi) :
  Calls prog 119 #[.pointer (some ⟨q.c,0,none⟩)] w fun e w'=>e=.returned (.tuple #[])/\Ca w' q D Q M cm L N T h mi/\Kp (q.foot (L++[x])) w w':=by
 obtain⟨ah,be,hr⟩:=H.rg;have c2:=H.cc.c2;have hla:=Mt hr;go_enter func119,ntmps119;go_upto_region 1 with (first
  | (go_at_call 160;refine hla.mono ?_;rintro e w1 ⟨rfl,hk1⟩)
  | fail)
 have hr1:=hr.kept hk1 (fun _ _ h=>h);have hle:=Fb hr1;go_upto_region 2 with (first
  | (go_at_call 115;refine hle.mono ?_;rintro e w3 ⟨rfl,ah3,be3,hr3,hx3,hk3,_⟩)
  | fail)
 rw[List.append_nil]at hr3 hk3;have sub:∀k,k∈q.s::L->k∈q.s::(L++[x]):=fun k hk=>by
  simp only[List.mem_cons,List.mem_append]at hk |-;rcases hk with e|e
  ·exact .inl e
  ·exact .inr (.inl e)
 have K3:Kp (fun k=>k∈q.s::L) w w3:=hk1.nThen hk3;have C3:=H.cc.kept K3 (fun hm=>H.s3.2 (sub _ hm));have m3:=H.mc.kept K3 (fun hm=>H.s4 (sub _ hm));obtain⟨es,cl,c,hm,hM,hO⟩:=m3;have hmd:w3.drew.heap[q.m]?=some (.map es cl):=hm;obtain⟨n,HN⟩:∃n,Hid (N x=n):=⟨_,rfl⟩;obtain⟨es',cl',hdel,hM'⟩:=MN (t:=129) (e:=123) (ty:=0) underlying129 hmd hM (N x);have d3:=C3.c3;have d0:=hx3.c0;rw[HN.out]at d0 hdel;have hne:∀k,q.p.mem k\/k=q.g->¬(k=q.m\/k∈q.s::L):=fun k hk e=>by
  have:=H.apart k hk;rcases e with e|e
  ·exact this.2.1 e
  ·exact this.2.2 (sub _ e)
 have KS:=Kp.setBlock (S:=only q.m) w3.drew q.m (.map es' cl') rfl;have K5:Kp (fun k=>k=q.m\/k∈q.s::L) w (setBlock w3.drew q.m (.map es' cl')):=((K3.then (Kp.drew _ _)).mono (fun k _ e=>.inr e)).then (KS.mono (fun k _ e=>.inl e));have hRP:=H.rest K5 hne;have C5:=H.cc.kept K5 (fun e=>by
  rcases e with e|e
  ·exact H.s3.1 e
  ·exact H.s3.2 (sub _ e))
 have R5:=(hr3.kept (Kp.drew none' w3) (fun _ _ h=>h)).kept KS (fun y hy e=>H.s4 (by rw[show y=q.m from e]at hy;exact sub _ hy));have hb5:(setBlock w3.drew q.m (.map es' cl')).heap[q.m]?=some (.map es' cl'):=(MapKept.heap_set hmd).1;have M5:=Mc.del hb5 hM' hO H.nd;have hnd:(L.map N).Nodup:=by
  have:=H.nd;rw[List.map_append,List.nodup_append]at this;exact this.1
 have hfin:Ca (setBlock w3.drew q.m (.map es' cl')) q D Q M cm L N T h mi:=⟨hRP.1,H.st,hRP.2,C5,⟨ah3,be3,R5⟩,M5,hnd,fun y hy=>H.da y (List.mem_append.2 (.inl hy)),
  fun k hk=>⟨(H.s1 k hk).1,(H.s1 k hk).2.1,fun hm=>(H.s1 k hk).2.2 (sub k hm)⟩,⟨H.s2.1,H.s2.2.1,fun hm=>H.s2.2.2 (sub _ hm)⟩,⟨H.s3.1,fun hm=>H.s3.2 (sub _ hm)⟩,fun hm=>H.s4 (sub _ hm),H.n2,H.hQ,H.sm⟩
 have HF:=hide hfin;have HK:=hide K5;clear hfin K5 hRP C5 R5 hb5 M5;go_region;all_goals first|go_end0|((try simp only[Exit.inBlock,Exit.then]);refine bodyPost_ret (results_none rfl _ _ _) rfl ?_)
 all_goals exact⟨rfl,HF.out,HK.out.mono (fun k _ e=>by
  rcases e with e|e
  ·exact .inr (.inr (.inr (.inl e)))
  ·exact .inr (.inr (.inr (.inr (sub _ e)))))⟩
theorem NV{w:World}{m:Nat}{es:Array MapEntry}{cl:Nat}{t e ty:TypeId}(ht:prog.underlying t=some (.map 3 e))(hm:w.heap[m]?=some (.map es cl)):(Builtin.len_ #[t] ty #[.map (some m)]).run prog w=.ok (.int .i64 (es.size:Int)) w:=by
 have h1:(#[t]:Array TypeId)[0]?=some t:=rfl;have h2:(#[Value.map (some m)]:Array Value)[0]?=some (.map (some m)):=rfl;simp only[Builtin.len_,h1,h2,Sem.run_bind,run_underlying ht,Result.andThen_ok,MapKept.run_getObj_map hm,Sem.run_pure];rfl
theorem Mc.put{w':World}{m:Nat}{L:List Nat}{x:Nat}{N:Nat->Int}{n:Int}{es:Array MapEntry}{cl:Nat}{c:Int->Option Value}(hb:w'.heap[m]?=some (.map es cl))(hM:Mi (putI c n (.pointer (some ⟨x,0,none⟩))) es.toList cl)(hO:MapOf L N c)(hn:n ∉ L.map N)(hx:x ∉ L):Mc w' m (x::L) (updF' N x n):=by
 refine⟨es,cl,_,hb,hM,fun z v=>?_⟩;have hN:∀y∈L,updF' N x n y=N y:=fun y hy=>by unfold updF';rw[if_neg (fun e=>hx (by rw[<-e];exact hy))]
 have hNx:updF' N x n x=n:=by simp[updF']
 constructor
 ·intro h;by_cases e:z=n
  ·simp only[putI,e,if_true,Option.some.injEq]at h;exact⟨x,List.mem_cons_self,by rw[hNx,e],h.symm⟩
  ·simp only[putI,e,if_false]at h;obtain⟨y,hy,h1,h2⟩:=(hO z v).1 h;exact⟨y,List.mem_cons_of_mem _ hy,by rw[hN y hy];exact h1,h2⟩
 ·rintro ⟨y,hy,h1,h2⟩;rcases List.mem_cons.1 hy with rfl|hy
  ·rw[hNx]at h1;simp[putI,h1,h2]
  ·rw[hN y hy]at h1;have e:z≠n:=fun e=>hn (by rw[<-e,<-h1];exact List.mem_map_of_mem hy);simp only[putI,e,if_false];exact(hO z v).2 ⟨y,hy,h1,h2⟩
theorem O9{L:List Nat}{x:Nat}{N:Nat->Int}{n:Int}(hx:x ∉ L):(x::L).map (updF' N x n)=n::L.map N:=by
 rw[List.map_cons];congr 1
 ·simp[updF']
 ·apply List.map_congr_left;intro y hy;unfold updF';rw[if_neg (fun e=>hx (by rw[<-e];exact hy))]
set_option maxRecDepth 100000 in
theorem NX{w:World}{q:Cq}{D:Dv}{Q:Nat->ByteArray}{M cm:Int}{L:List Nat}{N:Nat->Int}{T:Nat->ByteArray}{h mi:Int}(H:Ca w q D Q M cm L N T h mi)(hl:L.length<=q.sz)(k:Nat)(hk:k<q.n)(hn:(k:Int) ∉ L.map N)(h0:0<=mi)(h1:mi<=1000000000) :
  Calls prog 84 #[.pointer (some ⟨q.c,0,none⟩),.agg #[.int .i64 (k:Int),.string (Q k)]] w fun e w'=>e=.returned (.tuple #[])/\∃L' N' T',Ca w' q D Q M cm L' N' T' h (mi+1)/\L'.map N'=((k:Int)::L.map N).take q.sz /\
   Kp (q.foot L) w w'/\∀j,q.foot L' j->q.foot L j\/w.heap.size<=j:=by
 obtain⟨X,HX⟩:∃X,Hid (Q k=X):=⟨_,rfl⟩;rw[HX.out];have k1:=Kp.alloc none' w (.cells #[.int .i64 (k:Int),.string X] 128);have r0:=Am w #[.int .i64 (k:Int),.string X] 128 0 _ rfl;have r1:=Am w #[.int .i64 (k:Int),.string X] 128 1 _ rfl;obtain⟨b,HB⟩:∃b,Hid (w.heap.size=b):=⟨_,rfl⟩;obtain⟨W1,H1⟩:∃W1,Hid (w.alloc (.cells #[.int .i64 (k:Int),.string X] 128)=W1):=⟨_,rfl⟩;rw[H1.out]at k1 r0 r1;rw[HB.out]at r0 r1;have A1:=H.keptN k1
 have hbf:∀j,q.foot L j->j≠b:=fun j hj e=>by have:=H.lt j hj;have:=HB.out;omega
 have hw:wrap64 (mi+1)=mi+1:=by unfold wrap64;omega
 have c5:=A1.cc.c5;have f5:=A1.cc.cf 5;go_enter func84,ntmps84;go_upto_region 1 with fail;rw[H1.out,HB.out];have p5:=Put.set W1 q.c 5 (.int .i64 (mi+1)) _ c5;go_upto_region 2 with fail;obtain⟨W2,H2⟩:∃W2,Hid (W1.setCell ⟨q.c,5,none⟩ (.int .i64 (mi+1))=W2):=⟨_,rfl⟩;rw[H2.out]at p5 |-;have C2:=A1.cc.put5 p5;obtain⟨ah,be,hr1⟩:=A1.rg;have hr2:=hr1.kept p5.kp (fun y hy e=>H.s3.2 (by rw[show y=q.c from e]at hy;exact hy));have M2:=A1.mc.kept p5.kp (fun e=>H.s3.1 (Eq.symm e))
 have K2:Kp (only q.c) w W2:=k1.nThen p5.kp;have hrd:=hr2.kept (Kp.drew none' W2) (fun _ _ h=>h);have hpu:=Ou (k:Int) X hrd;have hbc:q.c≠b:=hbf _ (.inr (.inr (.inl rfl)));have hbs:b ∉ q.s::L:=fun hm=>hbf b (.inr (.inr (.inr (.inr hm)))) rfl;have hbm:q.m≠b:=hbf _ (.inr (.inr (.inr (.inl rfl))))
 have t0:W2.drew.cell? ⟨q.c,3,none⟩=some (.map (some q.m))/\W2.drew.cell? ⟨q.c,2,none⟩=some (.pointer (some ⟨q.s,0,none⟩))/\W2.drew.cell? ⟨b,0,none⟩=some (.int .i64 (k:Int))/\W2.drew.cell? ⟨b,1,none⟩=some (.string X) :=
  ⟨C2.c3,C2.c2,by show W2.cell? _=_;rw[p5.old _ _ (.inl (Ne.symm hbc))];exact r0,by show W2.cell? _=_;rw[p5.old _ _ (.inl (Ne.symm hbc))];exact r1⟩
 have hsb:W2.heap.size=W1.heap.size:=p5.sz;have hs1:w.heap.size<=W2.heap.size:=K2.size;have HPM:Hid (∀(w3:World) (x:Nat),Kp (fun k=>k∈q.s::L) W2.drew w3->∃es cl c es' cl',w3.heap[q.m]?=some (.map es cl)/\MapOf L N c/\(Instr.mapUpdate 129 (.map (some q.m)) (.int .i64 (k:Int)) (.pointer (some ⟨x,0,none⟩))).run prog w3=.ok () (setBlock w3 q.m (.map es' cl'))/\Mi (putI c (k:Int) (.pointer (some ⟨x,0,none⟩))) es'.toList cl'):=fun w3 x hk3=>by
  obtain⟨es,cl,c,hm,hM,hO⟩:=(M2.kept (Kp.drew none' W2) (fun h=>h)).kept hk3 H.s4;obtain⟨es',cl',hput,hM'⟩:=MJ (t:=129) (e:=123) underlying129 hm hM (k:Int) (.pointer (some ⟨x,0,none⟩));exact⟨es,cl,c,es',cl',hm,hO,hput,hM'⟩
 have kS:∀(W:World) (o:Obj),(W.cell? ⟨q.c,3,none⟩=some (.map (some q.m))/\W.cell? ⟨q.c,2,none⟩=some (.pointer (some ⟨q.s,0,none⟩))/\W.cell? ⟨b,0,none⟩=some (.int .i64 (k:Int))/\W.cell? ⟨b,1,none⟩=some (.string X)) ->
   ((setBlock W q.m o).cell? ⟨q.c,3,none⟩=some (.map (some q.m))/\(setBlock W q.m o).cell? ⟨q.c,2,none⟩=some (.pointer (some ⟨q.s,0,none⟩))/\(setBlock W q.m o).cell? ⟨b,0,none⟩=some (.int .i64 (k:Int))/\(setBlock W q.m o).cell? ⟨b,1,none⟩=some (.string X)):=fun W o h=>by
  have ks:=Kp.setBlock (S:=only q.m) W q.m o rfl;exact⟨ks.cell h.1 H.s3.1,ks.cell h.2.1 H.s3.1,ks.cell h.2.2.1 (Ne.symm hbm),ks.cell h.2.2.2 (Ne.symm hbm)⟩
 clear M2;go_region_held_law (fun W=>W.cell? ⟨q.c,3,none⟩=some (.map (some q.m))/\W.cell? ⟨q.c,2,none⟩=some (.pointer (some ⟨q.s,0,none⟩))/\W.cell? ⟨b,0,none⟩=some (.int .i64 (k:Int))/\W.cell? ⟨b,1,none⟩=some (.string X)) (first|assumption|exact kS _ _ (by assumption)) (first
  | (go_at_call 118;refine hpu.mono ?_;rintro e w3 ⟨x,ah3,be3,rfl,hx3,hr3,hk3⟩;have T3:w3.cell? ⟨q.c,3,none⟩=some (.map (some q.m))/\w3.cell? ⟨q.c,2,none⟩=some (.pointer (some ⟨q.s,0,none⟩))/\w3.cell? ⟨b,0,none⟩=some (.int .i64 (k:Int))/\w3.cell? ⟨b,1,none⟩=some (.string X):=⟨hk3.cell t0.1 H.s3.2,hk3.cell t0.2.1 H.s3.2,hk3.cell t0.2.2.1 hbs,hk3.cell t0.2.2.2 hbs⟩;obtain⟨es,cl,c,es',cl',hm3,hO3,hput,hM3⟩:=HPM.out w3 x hk3)
  | fail)
 have hx2:w.heap.size<=x:=Nat.le_trans hs1 hx3;have hxf:∀j,q.foot L j->j≠x:=fun j hj e=>by have:=H.lt j hj;omega
 have hxl:x ∉ q.s::L:=fun hm=>hxf x (.inr (.inr (.inr (.inr hm)))) rfl;have hxL:x ∉ L:=fun hm=>hxl (List.mem_cons_of_mem _ hm);have KS:=Kp.setBlock (S:=only q.m) w3 q.m (.map es' cl') rfl;have K4:Kp (fun j=>j=q.c\/j=q.m\/j∈q.s::L) w (setBlock w3 q.m (.map es' cl')):=((K2.mono (fun j _ e=>.inl e)).then ((Kp.drew none' W2).nThen hk3 |>.mono (fun j _ e=>.inr (.inr e)))).then (KS.mono (fun j _ e=>.inr (.inl e)));have hne:∀j,q.p.mem j\/j=q.g->¬(j=q.c\/j=q.m\/j∈q.s::L):=fun j hj e=>by
  have:=H.apart j hj;rcases e with e|e|e
  ·exact this.1 e
  ·exact this.2.1 e
  ·exact this.2.2 e
 have hRP:=H.rest K4 hne;have C4:=((C2.kept (Kp.drew none' W2) (fun h=>h)).kept hk3 H.s3.2).kept KS H.s3.1;have hxm:q.m ∉ q.s::x::L:=fun hm=>by
  simp only[List.mem_cons]at hm;rcases hm with e|e|e
  ·exact H.s4 (by rw[e];exact List.mem_cons_self)
  ·exact hxf _ (.inr (.inr (.inr (.inl rfl)))) e
  ·exact H.s4 (List.mem_cons_of_mem _ e)
 have more:∀j,q.foot L j->j∈q.s::x::L->j∈q.s::L:=fun j hj hm=>by
  simp only[List.mem_cons]at hm |-;rcases hm with e|e|e
  ·exact .inl e
  ·exact absurd e (hxf j hj)
  ·exact .inr e
 have R4:=hr3.kept KS (fun y hy e=>hxm (by rw[show y=q.m from e]at hy;exact hy));have hb4:(setBlock w3 q.m (.map es' cl')).heap[q.m]?=some (.map es' cl'):=(MapKept.heap_set hm3).1;have M4:=Mc.put hb4 hM3 hO3 hn hxL;have hmp:=O9 (N:=N) (n:=(k:Int)) hxL;have A4:Ca (setBlock w3 q.m (.map es' cl')) q D Q M cm (x::L) (updF' N x (k:Int)) (updF' T x X) h (mi+1):=by
  refine⟨hRP.1,H.st,hRP.2,C4,⟨ah3,be3,R4⟩,M4,by rw[hmp];exact List.nodup_cons.2 ⟨hn,H.nd⟩,fun y hy=>?_,fun j hj=>⟨(H.s1 j hj).1,(H.s1 j hj).2.1,fun hm=>(H.s1 j hj).2.2 (more j (.inl hj) hm)⟩,
   ⟨H.s2.1,H.s2.2.1,fun hm=>H.s2.2.2 (more _ (.inr (.inl rfl)) hm)⟩,⟨H.s3.1,fun hm=>H.s3.2 (more _ (.inr (.inr (.inl rfl))) hm)⟩,hxm,H.n2,H.hQ,H.sm⟩
  by_cases e:y=x
  ·subst e;exact⟨k,hk,by simp[updF'],by simp[updF',HX.out]⟩
  ·rcases List.mem_cons.1 hy with e'|hy'
   ·exact absurd e' e
   ·obtain⟨k',a1,a2,a3⟩:=H.da y hy';exact⟨k',a1,by simp[updF',e,a2],by simp[updF',e,a3]⟩
 have hlen:es'.size=L.length+1:=by
  obtain⟨es2,cl2,c2,q1,q2,q3⟩:=A4.mc;rw[hb4]at q1;cases q1
  have:=q3.size q2 A4.nd;simpa using this
 have hfoot:∀j,q.foot (x::L) j->q.foot L j\/w.heap.size<=j:=fun j hj=>by
  rcases hj with e|e|e|e|e
  ·exact .inl (.inl e)
  ·exact .inl (.inr (.inl e))
  ·exact .inl (.inr (.inr (.inl e)))
  ·exact .inl (.inr (.inr (.inr (.inl e))))
  ·simp only[List.mem_cons]at e;rcases e with e|e|e
   ·exact .inl (.inr (.inr (.inr (.inr (by rw[e];exact List.mem_cons_self)))))
   ·exact .inr (by rw[e];exact hx2)
   ·exact .inl (.inr (.inr (.inr (.inr (List.mem_cons_of_mem _ e)))))
 have HFT:=hide hfoot;have HK4:=hide K4;have HMP:=hide hmp;have hru:=NV (w:=(setBlock w3 q.m (.map es' cl')).drew) (ty:=3) underlying129 (m:=q.m) hb4;rw[hlen]at hru;obtain⟨W4,H4⟩:∃W4,Hid (setBlock w3 q.m (.map es' cl')=W4):=⟨_,rfl⟩;rw[H4.out]at A4 hru HK4 |-;have A5:=A4.keptN (Kp.drew none' W4);have e1:=A4.cc.c1;have e3:=A4.cc.c3;clear hfoot K4 hmp KS R4 hb4 M4 hRP C4 hM3 hO3 hput kS HPM hlen hpu t0 T3;have HK5:Hid (Kp (q.foot L) w W4.drew):=(HK4.out.mono (fun j _ e=>by
  rcases e with e|e|e
  ·exact .inr (.inr (.inl e))
  ·exact .inr (.inr (.inr (.inl e)))
  ·exact .inr (.inr (.inr (.inr e))))).thenN (Kp.drew _ _)
 go_wp2;by_cases hsz:q.sz<L.length+1
 ·have hsi:(q.sz:Int)<((L.length+1:Nat):Int):=by omega
  obtain⟨L2,y,hL2⟩:∃L2 y,x::L=L2++[y]:=⟨(x::L).dropLast,(x::L).getLast (by simp),(List.dropLast_concat_getLast (by simp)).symm⟩;have HL2:=hide hL2;have A6:=A5;rw[hL2]at A6;have hdr:=GN A6;clear hL2 A6;go_region;all_goals go_wp2_with (first
   | (go_at_call 119;refine hdr.mono ?_;rintro e w7 ⟨rfl,A7,hk7⟩)
   | fail)
  all_goals first|go_end0|((try simp only[Exit.inBlock,Exit.then]);refine bodyPost_ret (results_none rfl _ _ _) rfl ?_)
  all_goals (
   have hmem:∀z,z∈L2->z∈x::L:=fun z hz=>by rw[HL2.out];exact List.mem_append.2 (.inl hz)
   have hl2:L2.length=q.sz:=by
    have:=congrArg List.length HL2.out;simp at this;omega
   refine⟨rfl,L2,_,_,A7,?_,HK5.out.trans hk7 (fun _ _ e=>e) (fun j hj e=>?_),fun j hj=>HFT.out j ?_⟩
   ·rw[<-HMP.out,HL2.out,List.map_append,List.take_append_of_le_length (by rw[List.length_map];omega),List.take_of_length_le (by rw[List.length_map];omega)]
   ·rw[<-HL2.out]at e;rcases HFT.out j e with e|e
    ·exact e
    ·omega
   ·rcases hj with e|e|e|e|e
    ·exact .inl e
    ·exact .inr (.inl e)
    ·exact .inr (.inr (.inl e))
    ·exact .inr (.inr (.inr (.inl e)))
    ·refine .inr (.inr (.inr (.inr ?_)));rcases List.mem_cons.1 e with e|e
     ·rw[e];exact List.mem_cons_self
     ·exact List.mem_cons_of_mem _ (hmem j e))
 ·have hsi:¬(q.sz:Int)<((L.length+1:Nat):Int):=by omega
  go_region;all_goals go_wp2
  all_goals first|go_end0|((try simp only[Exit.inBlock,Exit.then]);refine bodyPost_ret (results_none rfl _ _ _) rfl ?_)
  all_goals (
   have e4:(x::L).map (updF' N x (k:Int))=((k:Int)::L.map N).take q.sz:=by rw[HMP.out,List.take_of_length_le (by rw[List.length_cons,List.length_map];omega)]
   first
    | exact⟨rfl,x::L,_,_,A5,e4,HK5.out,HFT.out⟩
    | exact⟨rfl,x::L,_,⟨_,A5⟩,e4,HK5.out,HFT.out⟩)
set_option maxRecDepth 100000 in
theorem L4(g n:Nat)(z:Int)(w:World)(h1:w.cell? ⟨g,1,none⟩=some (.int .i64 n))(hz:¬(0<=z/\z<(n:Int))) :
  Calls prog 83 #[.pointer (some ⟨g,0,none⟩),.int .i64 z] w fun e w'=>e=.returned (.tuple #[.string ⟨#[]⟩,.int .i64 7])/\w'=w:=by
 have hB:hasB n z=false:=by
  cases h:hasB n z with
  | false=>rfl
  | true=>simp[hasB]at h;exact absurd (by omega) hz
 go_enter func83,ntmps83;go_wp2_with (first
  | (go_at_call 105;refine(IY _ _ _ _ h1).mono ?_;rintro e w' ⟨rfl,rfl⟩;rw[hB])
  | fail)
 go_ret2;exact⟨rfl,rfl⟩
theorem Kj(w:World):(zeroValue 123).run prog w=.ok (.pointer none) w:=Tryz.zeroValue123 w
def Cas(w:World)(q:Cq)(F:Nat->Prop)(D:Dv)(Q:Nat->ByteArray)(M cm:Int)(K:List Int)(h mi:Int):Prop :=
 ∃L N T,Ca w q D Q M cm L N T h mi/\L.map N=K/\K.length<=q.sz/\∀k,q.foot L k->F k
theorem Cas.kept{w w':World}{q:Cq}{F S:Nat->Prop}{D:Dv}{Q:Nat->ByteArray}{M cm:Int}{K:List Int}{h mi:Int}(H:Cas w q F D Q M cm K h mi)(hk:Kp S w w')(hS:∀k,k<w.heap.size->F k->¬S k):Cas w' q F D Q M cm K h mi:=by
 obtain⟨L,N,T,h1,h2,h3,h4⟩:=H;exact⟨L,N,T,h1.kept hk (fun k hk=>hS k (h1.lt k hk) (h4 k hk)),h2,h3,h4⟩
theorem Cas.keptN{w w':World}{q:Cq}{F:Nat->Prop}{D:Dv}{Q:Nat->ByteArray}{M cm:Int}{K:List Int}{h mi:Int}(H:Cas w q F D Q M cm K h mi)(hk:Kp none' w w'):Cas w' q F D Q M cm K h mi:=H.kept hk (fun _ _ _ h=>h)
theorem Cas.mono{w:World}{q:Cq}{F G:Nat->Prop}{D:Dv}{Q:Nat->ByteArray}{M cm:Int}{K:List Int}{h mi:Int}(H:Cas w q F D Q M cm K h mi)(hF:∀k,k<w.heap.size->F k->G k):Cas w q G D Q M cm K h mi:=by
 obtain⟨L,N,T,h1,h2,h3,h4⟩:=H;exact⟨L,N,T,h1,h2,h3,fun k hk=>hF k (h1.lt k hk) (h4 k hk)⟩
theorem I6{p r:List Int}{z:Int}(h:(p++z::r).Nodup):(p++z::r).erase z=p++r:=by
 have hz:z ∉ p:=fun hm=>by
  rw[List.nodup_append]at h;exact h.2.2 z hm z List.mem_cons_self rfl
 rw[List.erase_append_right _ hz];simp
set_option maxRecDepth 100000 in
theorem LT{w:World}{q:Cq}{F:Nat->Prop}{D:Dv}{Q:Nat->ByteArray}{M cm:Int}{K:List Int}{h mi:Int}(H:Cas w q F D Q M cm K h mi)(h0:0<=h)(h1:h<=1000000000)(z:Int)(hz:z∈K) :
  Calls prog 53 #[.pointer (some ⟨q.c,0,none⟩),.int .i64 z] w fun e w'=>(0<=z/\z<(q.n:Int))/\e=.returned (.tuple #[.string (Q z.toNat),.int .i64 0])/\Cas w' q F D Q M cm (use q.sz K z) (h+1) mi/\Kp F w w':=by
 obtain⟨L,N,T,HA,rfl,hl,hF⟩:=H;obtain⟨x,hx,rfl⟩:=List.mem_map.1 hz;obtain⟨p,r,rfl⟩:=List.append_of_mem hx;obtain⟨k,hk,hNk,hTk⟩:=HA.da x hx;obtain⟨es,cl,c,hm,hM,hO⟩:=HA.mc;have hcx:=hO.someOf hx;have hlk:=En (t:=129) (e:=123) underlying129 Kj hm hM (N x) true;rw[hcx]at hlk;have hop:=De q.c q.g w HA.cc.c0;have hhi:=O0 HA h0 h1;have c3:=HA.cc.c3;have hnd:=HA.nd;rw[List.map_append,List.map_cons]at hnd;have hu:use q.sz ((p++x::r).map N) (N x)=(x::(p++r)).map N:=by
  unfold use;rw[if_pos hz,List.map_append,List.map_cons,I6 hnd,List.map_cons,List.map_append]
 have HU:=hide hu;have hle:((x::(p++r)).map N).length<=q.sz:=by
  have:=hl;simp only[List.length_map,List.length_append,List.length_cons]at this |-;omega
 have hT:T x=Q (N x).toNat:=by rw[hTk,hNk];rfl
 have hzr:0<=N x/\N x<(q.n:Int):=by rw[hNk];omega
 have HZ:=hide hzr;have HLE:=hide hle;clear hu hle hnd hzr hNk hTk;obtain⟨Y,HY⟩:∃Y,Hid (T x=Y):=⟨_,rfl⟩;rw[HY.out]at hhi hT;obtain⟨z,HZZ⟩:∃z,Hid (N x=z):=⟨_,rfl⟩;rw[HZZ.out]at hlk HU HZ hT |-;rw[<-hT];clear hT;go_enter func53,ntmps53;go_wp2_with (first
  | (go_at_call 80;refine hop.mono ?_;rintro e w' ⟨rfl,rfl⟩)
  | (go_at_call 82;refine hhi.mono ?_;rintro e w2 ⟨rfl,A2,hk2⟩)
  | fail)
 go_ret2;refine⟨HZ.out,rfl,⟨_,N,T,A2,by rw[HU.out],by rw[HU.out];exact HLE.out,fun j hj=>hF j ?_⟩,hk2.mono (fun j _ hj=>hF j hj)⟩;rcases hj with e|e|e|e|e
 ·exact .inl e
 ·exact .inr (.inl e)
 ·exact .inr (.inr (.inl e))
 ·exact .inr (.inr (.inr (.inl e)))
 ·refine .inr (.inr (.inr (.inr ?_)));simp only[List.mem_cons,List.mem_append]at e |-;rcases e with e|e|e|e
  ·exact .inl e
  ·exact .inr (.inr (.inl e))
  ·exact .inr (.inl e)
  ·exact .inr (.inr (.inr e))
set_option maxRecDepth 100000 in
theorem J8{w:World}{q:Cq}{F:Nat->Prop}{D:Dv}{Q:Nat->ByteArray}{M cm:Int}{K:List Int}{h mi:Int}(H:Cas w q F D Q M cm K h mi)(h0:0<=mi)(h1:mi<=1000000000)(k:Nat)(hk:k<q.n)(hz:(k:Int) ∉ K) :
  Calls prog 53 #[.pointer (some ⟨q.c,0,none⟩),.int .i64 (k:Int)] w fun e w'=>e=.returned (.tuple #[.string (Q k),.int .i64 0])/\Cas w' q (fun j=>F j\/w.heap.size<=j) D Q M cm (use q.sz K (k:Int)) h (mi+1)/\Kp F w w':=by
 obtain⟨L,N,T,HA,rfl,hl,hF⟩:=H;obtain⟨es,cl,c,hm,hM,hO⟩:=HA.mc;have hcx:=hO.noneOf hz;have hlk:=En (t:=129) (e:=123) underlying129 Kj hm hM (k:Int) true;rw[hcx]at hlk;have hop:=De q.c q.g w HA.cc.c0;have c3:=HA.cc.c3;have c0:=HA.cc.c0;have hrd:=L9 HA.hR HA.n2 HA.hQ HA.hP hk;have hmi:∀W:World,Kp none' w W->_:=fun W hW=>NX (HA.keptN hW) (by simpa using hl) k hk hz h0 h1;have HMI:=hide hmi
 have HU:Hid (use q.sz (L.map N) (k:Int)=((k:Int)::L.map N).take q.sz):=by show _=_;unfold use;rw[if_neg hz]
 obtain⟨X,HX⟩:∃X,Hid (Q k=X):=⟨_,rfl⟩;rw[HX.out]at hrd HMI |-;clear hmi;go_enter func53,ntmps53;go_wp2_with (first
  | (go_at_call 80;refine hop.mono ?_;rintro e w' ⟨rfl,rfl⟩)
  | (go_at_call 83;refine hrd.mono ?_;rintro e w2 ⟨rfl,hk2⟩)
  | (go_at_call 84;refine(HMI.out w2 hk2).mono ?_;rintro e w3 ⟨rfl,L3,N3,T3,A3,hL3,hk3,hf3⟩)
  | fail)
 go_ret2;refine⟨rfl,⟨L3,N3,T3,A3,by rw[HU.out];exact hL3,by rw[HU.out,List.length_take];omega,fun j hj=>?_⟩,hk2.trans hk3 (fun _ _ h=>h.elim) (fun j _ hj=>hF j hj)⟩;rcases hf3 j hj with e|e
 ·exact .inl (hF j e)
 ·exact .inr (Nat.le_trans hk2.size e)
set_option maxRecDepth 100000 in
theorem Lx{w:World}{q:Cq}{F:Nat->Prop}{D:Dv}{Q:Nat->ByteArray}{M cm:Int}{K:List Int}{h mi:Int}(H:Cas w q F D Q M cm K h mi)(z:Int)(hz:¬(0<=z/\z<(q.n:Int))) :
  Calls prog 53 #[.pointer (some ⟨q.c,0,none⟩),.int .i64 z] w fun e w'=>e=.returned (.tuple #[.string ⟨#[]⟩,.int .i64 7])/\w'=w:=by
 obtain⟨L,N,T,HA,rfl,hl,hF⟩:=H;obtain⟨es,cl,c,hm,hM,hO⟩:=HA.mc;have hzn:z ∉ L.map N:=fun hmem=>by
  obtain⟨x,hx,rfl⟩:=List.mem_map.1 hmem;obtain⟨k,hk,hNk,_⟩:=HA.da x hx;exact hz (by rw[hNk];omega)
 have hcx:=hO.noneOf hzn;have hlk:=En (t:=129) (e:=123) underlying129 Kj hm hM z true;rw[hcx]at hlk;have hop:=De q.c q.g w HA.cc.c0;have c3:=HA.cc.c3;have c0:=HA.cc.c0;have hrd:=L4 q.g q.n z w HA.hP.c1 hz;clear hz;go_enter func53,ntmps53;go_wp2_with (first
  | (go_at_call 80;refine hop.mono ?_;rintro e w' ⟨rfl,rfl⟩)
  | (go_at_call 83;refine hrd.mono ?_;rintro e w' ⟨rfl,rfl⟩)
  | fail)
 go_ret2;exact⟨rfl,rfl⟩
set_option maxRecDepth 100000 in
theorem Jo{w:World}{q:Cq}{F:Nat->Prop}{D:Dv}{Q:Nat->ByteArray}{M cm:Int}{K:List Int}{h mi:Int}(H:Cas w q F D Q M cm K h mi):Calls prog 52 #[.pointer (some ⟨q.c,0,none⟩)] w fun e w'=>e=.returned (.int .i64 (q.n:Int))/\w'=w:=by
 obtain⟨L,N,T,HA,rfl,hl,hF⟩:=H;have hop:=De q.c q.g w HA.cc.c0;have c0:=HA.cc.c0;have hsi:=Gq q.g (q.n:Int) w HA.hP.c1;go_enter func52,ntmps52;go_wp2_with (first
  | (go_at_call 80;refine hop.mono ?_;rintro e w' ⟨rfl,rfl⟩)
  | (go_at_call 81;refine hsi.mono ?_;rintro e w' ⟨rfl,rfl⟩)
  | fail)
 go_ret;exact⟨rfl,rfl⟩
def szN(z:Int):Nat:=(min (max z 0) 64).toNat
set_option maxRecDepth 100000 in
theorem Mw{w:World}{p:Dp}{D:Dv}{n g:Nat}{Q:Nat->ByteArray}{M cm:Int}(z:Int)(hR:Rest w p D n Q M)(st:D.st=false)(hP:Pag w g p n cm (.slice none 0 0) [])(hn:n<=160)(hQ:∀p,(Q p).size=256) :
  Calls prog 33 #[.pointer (some ⟨g,0,none⟩),.int .i64 z] w fun e w'=>∃q:Cq,e=.returned (.pointer (some ⟨q.c,0,none⟩))/\q.n=n/\q.sz=szN z/\q.p=p/\q.g=g/\Cas w' q (fun k=>p.mem k\/k=g\/w.heap.size<=k) D Q M cm [] 0 0/\Kp none' w w':=by
 have hne:=I1 w;have HSZ:Hid (min (max z 0) 64=(szN z:Int)):=by show _=_;unfold szN;omega
 have hcm:∀W:World,Kp none' w W->Calls prog 55 #[.pointer (some ⟨g,0,none⟩)] W fun e w'=>e=.returned (.int .i64 cm)/\w'=W:=fun W hW=>D3 g cm W (hW.cell hP.c2 (fun h=>h));have HCM:=hide hcm;clear hcm;have hmm:=@run_makeMap prog;have hum:=underlying129;go_enter func33,ntmps33;go_wp2_with (first
  | (go_at_call 54;refine hne.mono ?_;rintro e w1 ⟨s,rfl,hs1,hr1,hk1⟩)
  | (go_at_call 55;refine(HCM.out _ (hk1.then (Kp.alloc none' w1 _))).mono ?_;rintro e w' ⟨rfl,rfl⟩)
  | fail)
 go_ret;rw[HSZ.out];have k2:=Kp.alloc none' w1 (.map #[] 0);have hm2:(w1.alloc (.map #[] 0)).heap[w1.heap.size]?=some (.map #[] 0):=heap_alloc_new w1 _;have s2:(w1.alloc (.map #[] 0)).heap.size=w1.heap.size+1:=by simp
 obtain⟨W2,H2⟩:∃W2,Hid (w1.alloc (.map #[] 0)=W2):=⟨_,rfl⟩;rw[H2.out]at k2 hm2 s2 |-;have cell:=Am W2 #[.pointer (some ⟨g,0,none⟩),.int .i64 (szN z:Int),.pointer (some ⟨s,0,none⟩),.map (some w1.heap.size),.int .i64 0,.int .i64 0,.int .i64 cm] 131;have froz:=CK W2 #[.pointer (some ⟨g,0,none⟩),.int .i64 (szN z:Int),.pointer (some ⟨s,0,none⟩),.map (some w1.heap.size),.int .i64 0,.int .i64 0,.int .i64 cm] 131
 have k3:=Kp.alloc none' W2 (.cells #[.pointer (some ⟨g,0,none⟩),.int .i64 (szN z:Int),.pointer (some ⟨s,0,none⟩),.map (some w1.heap.size),.int .i64 0,.int .i64 0,.int .i64 cm] 131);obtain⟨W3,H3⟩:∃W3,Hid (W2.alloc (.cells #[.pointer (some ⟨g,0,none⟩),.int .i64 (szN z:Int),.pointer (some ⟨s,0,none⟩),.map (some w1.heap.size),.int .i64 0,.int .i64 0,.int .i64 cm] 131)=W3):=⟨_,rfl⟩;rw[H3.out]at k3 cell froz |-;rw[s2]at cell froz;have kw:=(hk1.then k2).then k3;have k23:=k2.then k3
 have hs:=(hr1.rm s (by simp)).lt;have hpm:=hR.hd.lt;have hg:=hP.lt;have hsz:=hk1.size;have hR3:=hR.keptN kw;have hP3:=hP.keptN kw;have hr3:=hr1.kept k23 (fun _ _ h=>h);have hm3:W3.heap[w1.heap.size]?=some (.map #[] 0):=by rw[k3.block w1.heap.size (by omega) (fun h=>h)];exact hm2
 refine⟨⟨w1.heap.size+1,g,s,w1.heap.size,p,n,szN z⟩,rfl,rfl,rfl,rfl,rfl,⟨[],fun _=>0,fun _=>⟨#[]⟩,⟨hR3,st,hP3,⟨cell 0 _ rfl,cell 1 _ rfl,cell 2 _ rfl,cell 3 _ rfl,cell 4 _ rfl,cell 5 _ rfl,cell 6 _ rfl,froz⟩,⟨_,_,hr3⟩,⟨#[],0,fun _=>none,hm3,Mi.nil 0,fun z v=>by simp⟩,by simp,by simp,?_,?_,?_,?_,hn,hQ,?_⟩,rfl,Nat.zero_le _,?_⟩,kw⟩
 ·intro k hk;have:=hpm k hk;refine⟨?_,?_,?_⟩
  ·show k≠w1.heap.size+1;omega
  ·show k≠w1.heap.size;omega
  ·show k ∉ [s];simp;omega
 ·refine⟨?_,?_,?_⟩
  ·show g≠w1.heap.size+1;omega
  ·show g≠w1.heap.size;omega
  ·show g ∉ [s];simp;omega
 ·refine⟨?_,?_⟩
  ·show w1.heap.size+1≠w1.heap.size;omega
  ·show w1.heap.size+1 ∉ [s];simp;omega
 ·show w1.heap.size ∉ [s];simp;omega
 ·show szN z<=64;unfold szN;omega
 ·intro k hk;rcases hk with e|e|e|e|e
  ·exact .inl e
  ·exact .inr (.inl e)
  ·have e':k=w1.heap.size+1:=e;exact .inr (.inr (by omega))
  ·have e':k=w1.heap.size:=e;exact .inr (.inr (by omega))
  ·have e':k=s:=by simpa using e
   exact .inr (.inr (by omega))
end Go.Proofs.YtjojffepakclcaaGreatDoor
