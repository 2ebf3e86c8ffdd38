/- Part of the proof: contracts over the turned program. -/
import Derived.Deep.RegionLaw
import Derived.Test.YtgcgacjhkhjhmaaGreatDoorX2
set_option linter.unusedVariables false
set_option maxHeartbeats 4000000
open Go.Proofs.Tryz
namespace Go.Proofs.YtgcgacjhkhjhmaaGreatDoor
open Go Go.RowKit
theorem Ar(b off q:Nat):(⟨b,off,none⟩:Addr).add q=⟨b,off+q,none⟩:=by unfold Addr.add;split<;>simp_all
def Pr.cells(p:Pr):List Value:=[.string p.k,.string p.v]
def prcs(l:List Pr):List Value:=l.flatMap Pr.cells
theorem D2(l:List Pr):(prcs l).length=l.length*2:=by
 induction l with
 | nil=>rfl
 | cons x l ih=>simp only[prcs,List.flatMap_cons,List.length_append,List.length_cons]at *;rw[ih];simp[Pr.cells];omega
theorem EA(l m:List Pr):prcs (l++m)=prcs l++prcs m:=by simp[prcs]
theorem N9(l:List Pr):∀u∈prcs l,u.oneCell'=true:=by
 intro u hu;obtain⟨x,_,h⟩:=List.mem_flatMap.1 hu;simp only[Pr.cells,List.mem_cons,List.not_mem_nil,or_false]at h;rcases h with rfl|rfl<;>rfl
theorem ES(l:List Pr):∀(i j:Nat) (h:i<l.length),j<2->(prcs l)[i*2+j]?=(Pr.cells l[i])[j]?:=by
 induction l with
 | nil=>intro i j h;simp at h
 | cons x l ih =>
  intro i j h hj;have e:prcs (x::l)=Pr.cells x++prcs l:=by simp[prcs]
  rw[e];rcases i with _|i
  ·rw[List.getElem?_append_left (by simp[Pr.cells];omega)];simp
  ·rw[List.getElem?_append_right (by simp[Pr.cells];omega)];have h2:=ih i j (by simpa using h) hj;have e2:(i+1)*2+j - (Pr.cells x).length=i*2+j:=by simp[Pr.cells];omega
   rw[e2,h2];simp
def OwP(w:World)(base:Nat)(v:Value)(l:List Pr):Prop:=w.ownsRow base 92 2 v l.length (prcs l)
theorem OwP.nil(w:World)(base:Nat):OwP w base (.slice none 0 0) []:=World.ownsRow_nil w base 92 2
theorem OwP.lt{w:World}{base:Nat}{v:Value}{l:List Pr}(h:OwP w base v l):∀k,v.ownBlock=some k->base<=k/\k<w.heap.size:=World.ownsRow.lt h
theorem OwP.kept{w w':World}{base:Nat}{v:Value}{l:List Pr}{S:Nat->Prop}(h:OwP w base v l)(hk:Kp S w w')(hS:∀k,v.ownBlock=some k->¬S k):OwP w' base v l:=by
 rcases h.2 with ⟨rfl,h0⟩|⟨g,cap,cur,rfl,hb,hg,h1,h2,h3,h4⟩
 ·exact⟨h.1,.inl ⟨rfl,h0⟩⟩
 ·have hlt:g<w.heap.size:=(Array.getElem?_eq_some_iff.1 hg).1;exact⟨h.1,.inr ⟨g,cap,cur,rfl,hb,by rw[hk.block g hlt (hS g rfl)];exact hg,h1,h2,h3,h4⟩⟩
theorem OwP.keptN{w w':World}{base:Nat}{v:Value}{l:List Pr}(h:OwP w base v l)(hk:Kp none' w w'):OwP w' base v l:=h.kept hk (fun _ _ h=>h)
theorem OwP.mono{w:World}{base base':Nat}{v:Value}{l:List Pr}(h:OwP w base v l)(hb:base'<=base):OwP w base' v l:=by
 rcases h.2 with ⟨rfl,h0⟩|⟨g,cap,cur,rfl,hb',hg,h1,h2,h3,h4⟩
 ·exact⟨h.1,.inl ⟨rfl,h0⟩⟩
 ·exact⟨h.1,.inr ⟨g,cap,cur,rfl,Nat.le_trans hb hb',hg,h1,h2,h3,h4⟩⟩
theorem OwP.prs{w:World}{base:Nat}{v:Value}{l:List Pr}(h:OwP w base v l):Prs w.heap.size w v l:=by
 have h':=h;rcases h.2 with ⟨rfl,h0⟩|⟨g,cap,cur,rfl,hb,hg,hnc,hcm,hcs,htake⟩
 ·have:l=[]:=List.eq_nil_of_length_eq_zero h0;subst this;exact Prs.nil _ w
 ·refine⟨some ⟨g,0,none⟩,cap,rfl,hnc,hcm,fun i hi=>⟨g,0,rfl,(Array.getElem?_eq_some_iff.1 hg).1,?_⟩⟩;have hc:=World.ownsRow.cells h' (g:=g) rfl;have g0:=hc (i*2+0) _ (by rw[ES l i 0 hi (by omega)];rfl);have g1:=hc (i*2+1) _ (by rw[ES l i 1 hi (by omega)];rfl);rw[Ar]at g0 g1;exact⟨g0,g1⟩
theorem Prs.src{B:Nat}{w:World}{v:Value}{l:List Pr}(h:Prs B w v l):Src prog 2 31 v l.length (prcs l) w:=by
 obtain⟨a,c,rfl,h1,h2,h3⟩:=h;cases l with
 | nil =>
  cases a with
  | none=>exact Src.ofNil w underlying31 c
  | some a=>exact Src.ofSlice w underlying31 a 0 c [] (by simp) (by simp) (by simp)
 | cons x l =>
  obtain⟨b,off,rfl,_,_,_⟩:=h3 0 (by simp);refine Src.ofSlice w underlying31 ⟨b,off,none⟩ _ c _ (D2 _) (fun j u hu=>?_) (N9 _);have hj:j<(prcs (x::l)).length:=(List.getElem?_eq_some_iff.1 hu).1;rw[D2]at hj;have hi:j / 2<(x::l).length:=by omega
  have hm:j%2<2:=Nat.mod_lt _ (by omega);have ej:j=j / 2*2+j%2:=by omega
  rw[ej,ES _ _ _ hi hm]at hu;obtain⟨b',off',e,_,c0,c1⟩:=h3 (j / 2) hi;cases e
  rw[Ar];rcases Nat.lt_or_ge (j%2) 1 with h0|h0
  ·have e0:j%2=0:=by omega
   rw[e0]at hu ej;simp only[Pr.cells,List.getElem?_cons_zero,Option.some.injEq]at hu;rw[<-hu,show off+j=off+j / 2*2 by omega];exact c0
  ·have e0:j%2=1:=by omega
   rw[e0]at hu ej;simp only[Pr.cells,List.getElem?_cons_succ,List.getElem?_cons_zero,Option.some.injEq]at hu;rw[<-hu,show off+j=off+j / 2*2+1 by omega];exact c1
theorem Sl.src{α:Type}{f:α->Value}(hf1:∀x,(f x).oneCell'=true){t e:TypeId}(ht:prog.underlying t=some (.slice e)){B:Nat}{w:World}{v:Value}{l:List α}(h:Sl f B w v l):Src prog 1 t v l.length (l.map f) w:=by
 obtain⟨a,c,rfl,h1,h2,h3⟩:=h;cases l with
 | nil =>
  cases a with
  | none=>exact Src.ofNil w ht c
  | some a=>exact Src.ofSlice w ht a 0 c [] (by simp) (by simp) (by simp)
 | cons x l =>
  obtain⟨b,off,rfl,_,_⟩:=h3 0 (by simp);refine Src.ofSlice w ht ⟨b,off,none⟩ _ c _ (by simp) (fun j u hu=>?_) (fun u hu=>?_)
  ·have hj:j<((x::l).map f).length:=(List.getElem?_eq_some_iff.1 hu).1;rw[List.length_map]at hj;rw[List.getElem?_map,List.getElem?_eq_getElem hj]at hu;simp only[Option.map_some,Option.some.injEq]at hu;obtain⟨b',off',e,_,c0⟩:=h3 j hj;cases e
   rw[Ar,<-hu];exact c0
  ·obtain⟨y,_,rfl⟩:=List.mem_map.1 hu;exact hf1 y
theorem KL(t e ty:TypeId)(z:Value)(sz by_:Nat)(ht:prog.underlying t=some (.slice e))(hinfo:(prog.info? e).map (fun i=>(i.zero,i.size,i.bytes))=some (some z,sz,by_))(hzc:z.cells.size=sz)(hby:by_<=64)
  (w:World) (base:Nat) (v:Value) (n:Nat) (cs:List Value) (x:Value) (m:Nat) (ds:List Value) (hO:w.ownsRow base e sz v n cs) (hs:Src prog sz t x m ds w) (hb:base<=w.heap.size) (hl:n+m<=1000000000) :
  ∃v' w',(Builtin.append_ #[t,t] ty #[v,x]).run prog w=.ok v' w'/\w'.ownsRow base e sz v' (n+m) (cs++ds)/\w.grownBy w' v.ownBlock/\(v'.ownBlock=v.ownBlock\/v'.ownBlock=some w.heap.size):=by
 obtain⟨i0,hi,hz0,hz1,hz2⟩:=info_parts hinfo;by_cases h0:0<n+m
 ·exact Ba (P:=prog) w base t t ty e i0 z sz by_ ht hi hz0 hzc hz1 hz2 v n cs hO x m ds hs h0 (by
   have:(n+m)*by_<=1000000000*64:=Nat.mul_le_mul hl hby
   omega) (by unfold maxLen;omega) hb
 ·obtain rfl:n=0:=by omega
  obtain rfl:m=0:=by omega
  have hd:ds=[]:=List.eq_nil_of_length_eq_zero (by have:=hs.newsLen;simpa using this);subst hd;have hs':Src prog i0.size t x 0 [] w:=by rw[hz1];exact hs
  have hf:=hs'.cells;refine⟨v,w,?_,by rw[List.append_nil];exact hO,⟨rfl,rfl,rfl,Nat.le_refl _,fun _ _ _=>rfl⟩,.inl rfl⟩;rcases hO.2 with ⟨rfl,_⟩|⟨g,cap,cur,rfl,_⟩
  ·simp[Builtin.append_,run_underlying ht,sizeOf,typeInfo,hi,hs'.len,hf]
  ·simp[Builtin.append_,run_underlying ht,sizeOf,typeInfo,hi,hs'.len,hf,Addr.add_lit,storeCells]
theorem JX:(prog.info? 92).map (fun i=>(i.zero,i.size,i.bytes))=some (some (.agg #[.string ⟨#[]⟩,.string ⟨#[]⟩]),2,32):=by kernel_rfl
theorem appP(w:World)(base:Nat)(v x:Value)(l k:List Pr)(hO:OwP w base v l)(hs:Src prog 2 31 x k.length (prcs k) w)(hb:base<=w.heap.size)(hl:l.length+k.length<=1000000000) :
  ∃v' w',(Builtin.append_ #[31,31] 31 #[v,x]).run prog w=.ok v' w'/\OwP w' base v' (l++k)/\w.grownBy w' v.ownBlock/\(v'.ownBlock=v.ownBlock\/v'.ownBlock=some w.heap.size):=by
 obtain⟨v',w',h1,h2,h3,h4⟩:=KL 31 92 31 _ 2 32 underlying31 JX rfl (by omega) w base v _ _ x _ _ hO hs hb hl;refine⟨v',w',h1,?_,h3,h4⟩;unfold OwP;rw[List.length_append,EA];exact h2
theorem Fw{P:Program}{w:World}{o:Oper}{a:Act}{K:Act->World->Prop}{Q:Exit->Act->World->Prop}(s x:Operand)(t tx:TypeId)
  (ho:o.op=.call { callee:=.builtin .append,args:=#[s,x],argTypes:=#[t,tx] }) (v xv:Value) (hs:a.eval s=v) (hx:a.eval x=xv) {v':Value} {w':World}
  (hr:(Builtin.append_ #[t,tx] o.type #[v,xv]).run P w=.ok v' w') (h:K (a.put o.dst v') w'):o.wp P a w K Q:=by
 unfold Oper.wp execOp;simp only[ho,resolve,invoke,builtin,Sem.run_bind,Sem.run_pure,Result.andThen_ok,List.map_toArray,List.map_cons,List.map_nil,hs,hx,hr];exact h
theorem Ak{P:Program}{w:World}{ops:Array Oper}{rest:List Oper}{o:Oper}{a:Act}{Q:Exit->Act->World->Prop}(hgd:o.guard=none)(s x:Operand)(t tx:TypeId)
  (ho:o.op=.call { callee:=.builtin .append,args:=#[s,x],argTypes:=#[t,tx] }) (v xv:Value) (hs:a.eval s=v) (hx:a.eval x=xv) {v':Value} {w':World}
  (hr:(Builtin.append_ #[t,tx] o.type #[v,xv]).run P w=.ok v' w') (h:wpList P ops Q rest (a.put o.dst v') w'):wpList P ops Q (o::rest) a w :=
 wpList_plain hgd fun _ hK=>Fw s x t tx ho v xv hs hx hr (hK _ _ h)
theorem A9{P:Program}{w:World}{ops:Array Oper}{o:Oper}{a:Act}{K:Act->World->Prop}{Q:Exit->Act->World->Prop}{E:Prop}(hgd:o.guard=none)(s x:Operand)(t tx:TypeId)
  (ho:o.op=.call { callee:=.builtin .append,args:=#[s,x],argTypes:=#[t,tx] }) (v xv:Value) (hs:a.eval s=v) (hx:a.eval x=xv) {v':Value} {w':World}
  (hr:(Builtin.append_ #[t,tx] o.type #[v,xv]).run P w=.ok v' w') (h:K (a.put o.dst v') w'):if Region.wanted o (yielded ops a.tmps)=true then Oper.wp P o a w K Q else E:=by
 have hw:Region.wanted o (yielded ops a.tmps)=true:=by simp[Region.wanted,hgd]
 rw[if_pos hw];exact Fw s x t tx ho v xv hs hx hr h
theorem Prs.take{B:Nat}{w:World}{a:Option Addr}{c:Nat}{l:List Pr}(h:Prs B w (.slice a l.length c) l)(m:Nat)(hm:m<=l.length):Prs B w (.slice a m c) (l.take m):=by
 obtain⟨a',c',e,h1,h2,h3⟩:=h;cases e
 refine⟨a,c,by rw[List.length_take,Nat.min_eq_left hm],by rw[List.length_take];omega,h2,fun i hi=>?_⟩;have hi':i<m:=by rw[List.length_take]at hi;omega
 obtain⟨b,off,e,hb,c0,c1⟩:=h3 i (by omega);exact⟨b,off,e,hb,by rw[List.getElem_take];exact c0,by rw[List.getElem_take];exact c1⟩
theorem Prs.drop{B:Nat}{w:World}{a a':Option Addr}{c:Nat}{l:List Pr}(h:Prs B w (.slice a l.length c) l)(m:Nat)(hm:m<=l.length)(ha:∀b off,m<l.length->a=some ⟨b,off,none⟩->a'=some ⟨b,off+m*2,none⟩):Prs B w (.slice a' (l.length - m) (c - m)) (l.drop m):=by
 obtain⟨a0,c',e,h1,h2,h3⟩:=h;cases e
 refine⟨a',c - m,by rw[List.length_drop],by rw[List.length_drop];omega,by omega,fun i hi=>?_⟩;have hi':m+i<l.length:=by rw[List.length_drop]at hi;omega
 obtain⟨b,off,e,hb,c0,c1⟩:=h3 (m+i) hi';refine⟨b,off+m*2,ha b off (by omega) e,hb,?_,?_⟩
 ·rw[List.getElem_drop,show off+m*2+i*2=off+(m+i)*2 by omega];exact c0
 ·rw[List.getElem_drop,show off+m*2+i*2+1=off+(m+i)*2+1 by omega];exact c1
theorem Sl.take{α:Type}{f:α->Value}{B:Nat}{w:World}{a:Option Addr}{c:Nat}{l:List α}(h:Sl f B w (.slice a l.length c) l)(m:Nat)(hm:m<=l.length):Sl f B w (.slice a m c) (l.take m):=by
 obtain⟨a',c',e,h1,h2,h3⟩:=h;cases e
 refine⟨a,c,by rw[List.length_take,Nat.min_eq_left hm],by rw[List.length_take];omega,h2,fun i hi=>?_⟩;have hi':i<m:=by rw[List.length_take]at hi;omega
 obtain⟨b,off,e,hb,c0⟩:=h3 i (by omega);exact⟨b,off,e,hb,by rw[List.getElem_take];exact c0⟩
theorem Sl.drop{α:Type}{f:α->Value}{B:Nat}{w:World}{a a':Option Addr}{c:Nat}{l:List α}(h:Sl f B w (.slice a l.length c) l)(m:Nat)(hm:m<=l.length)(ha:∀b off,m<l.length->a=some ⟨b,off,none⟩->a'=some ⟨b,off+m,none⟩):Sl f B w (.slice a' (l.length - m) (c - m)) (l.drop m):=by
 obtain⟨a0,c',e,h1,h2,h3⟩:=h;cases e
 refine⟨a',c - m,by rw[List.length_drop],by rw[List.length_drop];omega,by omega,fun i hi=>?_⟩;have hi':m+i<l.length:=by rw[List.length_drop]at hi;omega
 obtain⟨b,off,e,hb,c0⟩:=h3 (m+i) hi';refine⟨b,off+m,ha b off (by omega) e,hb,?_⟩;rw[List.getElem_drop,show off+m+i=off+(m+i) by omega];exact c0
theorem Ov{P:Program}(w:World)(t e:TypeId)(ht:P.underlying t=some (.slice e))(x y:Value)(hx:x.oneCell'=true)(hy:y.oneCell'=true)(g:Nat)(hg:w.heap.size=g):Src P 2 t (.slice (some ⟨g,0,none⟩) 1 1) 1 [x,y] (w.alloc (.cells #[x,y] e)):=by
 subst hg;refine Src.ofSlice (e':=e) _ ht ⟨w.heap.size,0,none⟩ 1 1 [x,y] (by simp) ?_ (by intro u hu;simp at hu;rcases hu with rfl|rfl<;>assumption);intro j u hj;match j,hj with
 | 0,hj=>simp at hj;subst hj;simp[Addr.add]
 | 1,hj=>simp at hj;subst hj;simp[Addr.add]
 | (j+2),hj=>simp at hj
theorem Prs.dropM{B:Nat}{w:World}{a:Option Addr}{c:Nat}{l:List Pr}(h:Prs B w (.slice a l.length c) l)(m:Nat)(hm:m<=l.length):Prs B w (.slice (a.map (fun x=>x.add (m*2))) (l.length - m) (c - m)) (l.drop m) :=
 h.drop m hm (fun b off _ e=>by rw[e];simp[Ar])
theorem Prs.drop0{B:Nat}{w:World}{a:Option Addr}{c:Nat}{l:List Pr}(h:Prs B w (.slice a l.length c) l)(m:Nat)(hm:m<=l.length)(hc:c=m):Prs B w (.slice a 0 0) (l.drop m):=by
 have hl:l.length<=c:=by obtain⟨_,_,e,h1,_⟩:=h;cases e;exact h1
 have:=h.drop (a':=a) m hm (fun b off hlt e=>absurd hlt (by omega));rwa [show c - m=0 by omega,show l.length - m=0 by omega]at this
theorem Nv.own{w:World}{v:Value}{l:List Pr}(h:Prs w.heap.size w v l)(hw:∀p∈l,p.k.size<=maxLen/\p.v.size<=maxLen):Nv w.heap.size w (.agg #[.bool true,v,.slice none 0 0,.slice none 0 0]) ⟨true,l,[],[]⟩ :=
 ⟨⟨v,_,_,rfl,h,Sl.nil _ _ _,Sl.nil _ _ _⟩,⟨hw,by simp,by simp⟩⟩
end Go.Proofs.YtgcgacjhkhjhmaaGreatDoor
