/- Part of the proof: contracts over the turned program. -/
import Derived.BigQuiet
import Derived.Deep.AppendSrc
import Derived.Deep.CutRange
import Derived.Deep.RegionHeldLaw
import Derived.Deep.WholeRow
import Derived.Lib.BufferWrite
import Derived.ProofKit
import Derived.Test.YtgcgacjhkhjhmaaGreatDoorChecked
import Derived.Test.YtgcgacjhkhjhmaaGreatDoorProg
import Derived.WalkLawsBesides
import Derived.WalkSpells
set_option linter.unusedVariables false
set_option maxHeartbeats 4000000
open Go.Proofs.Tryz
namespace Go.Proofs.YtgcgacjhkhjhmaaGreatDoor
theorem Qa{A:Type _}(l:List A)(i:Nat)(a:A):l.toArray.setIfInBounds i a=(l.set i a).toArray:=List.setIfInBounds_toArray ..
theorem Qb{A:Type _}(x:A)(l:List A)(a:A):(x::l).set 0 a=a::l:=rfl
theorem Qc{A:Type _}(x:A)(l:List A)(n:Nat)(a:A):(x::l).set (n+1) a=x::l.set n a:=rfl
theorem Qd{a b c:Nat}:a<b->b<=c->a<c:=Nat.lt_of_lt_of_le
end Go.Proofs.YtgcgacjhkhjhmaaGreatDoor
namespace Go.Proofs.YtgcgacjhkhjhmaaGreatDoor
open Go Go.RowKit
def bcs(l:List UInt8):List Value:=l.map fun b=>Value.int .u8 (b.toNat:Int)
theorem Bf(l:List UInt8):(bcs l).length=l.length:=by simp[bcs]
theorem Cu(l k:List UInt8):bcs (l++k)=bcs l++bcs k:=by simp[bcs]
theorem EK(l:List UInt8):∀u∈bcs l,u.oneCell'=true:=by
 intro u hu;obtain⟨_,_,rfl⟩:=List.mem_map.1 hu;rfl
def Own(e:TypeId)(w:World)(base:Nat)(v:Value)(l:List UInt8):Prop:=w.ownsRow base e 1 v l.length (bcs l)
theorem Own.nil(e:TypeId)(w:World)(base:Nat):Own e w base (.slice none 0 0) []:=World.ownsRow_nil w base e 1
theorem Own.lt{e:TypeId}{w:World}{base:Nat}{v:Value}{l:List UInt8}(h:Own e w base v l):∀k,v.ownBlock=some k->base<=k/\k<w.heap.size:=World.ownsRow.lt h
theorem Own.alloc{e:TypeId}{w:World}{base:Nat}{v:Value}{l:List UInt8}(h:Own e w base v l)(o:Obj):Own e (w.alloc o) base v l:=World.ownsRow.alloc h o
theorem Own.shape{e:TypeId}{w:World}{base:Nat}{v:Value}{l:List UInt8}(h:Own e w base v l):(v=.slice none 0 0/\l=[])\/∃g cap,v=.slice (some ⟨g,0,none⟩) l.length cap/\base<=g/\g<w.heap.size/\∀j (hj:j<l.length),w.cell? ⟨g,j,none⟩=some (.int .u8 (l[j].toNat:Int)):=by
 have h':=h;rcases h.2 with ⟨rfl,h0⟩|⟨g,cap,cur,rfl,hb,hg,_⟩
 ·exact .inl ⟨rfl,List.eq_nil_of_length_eq_zero h0⟩
 ·refine .inr ⟨g,cap,rfl,hb,(Array.getElem?_eq_some_iff.1 hg).1,fun j hj=>?_⟩;have hc:=World.ownsRow.cellAt (g:=g) (cap:=cap) h' j (by omega);rw[hc];simp[bcs,hj]
theorem CP{P:Program}(w:World)(base:Nat)(t tx ty e:TypeId)(i:TypeInfo)(ht:P.underlying t=some (.slice e))(hi:P.info? e=some i)(hz:i.zero=some (.int .u8 0))
  (hsize:i.size=1) (hby:i.bytes=1) (v:Value) (l:List UInt8) (hown:Own e w base v l) (x:Value) (k:List UInt8) (hs:Src P 1 tx x k.length (bcs k) w)
  (hb:l.length+k.length<=140737488355328) (hbase:base<=w.heap.size) :
  ∃v' w',(Builtin.append_ #[t,tx] ty #[v,x]).run P w=.ok v' w'/\Own e w' base v' (l++k)/\w.grownBy w' v.ownBlock/\(v'.ownBlock=v.ownBlock\/v'.ownBlock=some w.heap.size):=by
 have hs':Src P i.size tx x k.length (bcs k) w:=by rw[hsize];exact hs
 have hml:l.length+k.length<=maxLen:=by simp only[maxLen];omega
 have hlen:(bcs l++bcs k).length=l.length+k.length:=by simp[Bf]
 have grown:∀(old:Nat),old<l.length+k.length->∀(row:Option Nat),
   Own e (w.drew.alloc (.cells ((bcs l++bcs k).toArray++Builtin.zeroCells (Value.int .u8 0).cells (grownCap w (l.length+k.length) old e - (l.length+k.length))) e)) base
    (.slice (some ⟨w.heap.size,0,none⟩) (l.length+k.length) (grownCap w (l.length+k.length) old e)) (l++k) /\
   w.grownBy (w.drew.alloc (.cells ((bcs l++bcs k).toArray++Builtin.zeroCells (Value.int .u8 0).cells (grownCap w (l.length+k.length) old e - (l.length+k.length))) e)) row:=by
  intro old ho row;have hge:=grownCap_ge w (l.length+k.length) old e;have hcm:grownCap w (l.length+k.length) old e<=maxLen:=grownCap_le_maxLen w _ old e hml;have hz1:(Value.int .u8 0).cells.size=1:=rfl;refine⟨⟨by rw[Cu,hlen,List.length_append,Nat.mul_one],.inr ⟨w.heap.size,grownCap w (l.length+k.length) old e,_,by rw[List.length_append],hbase,heap_alloc_new w.drew _,by rw[List.length_append];exact hge,hcm,?_,?_⟩⟩,⟨rfl,rfl,rfl,by simp,fun k' hk _=>heap_alloc_old w.drew _ hk⟩⟩
  ·simp only[Array.size_append,List.size_toArray,size_zeroCells,hz1,hlen];omega
  ·rw[List.length_append,Nat.mul_one,Cu];simp only[Array.toList_append];rw[<-hlen];exact List.take_left
 rcases hown.2 with ⟨rfl,h0⟩|⟨g,cap,cur,rfl,hbg,hg,hnc,hcm,hcs,htake⟩
 ·have hl:l=[]:=List.eq_nil_of_length_eq_zero h0;subst hl;by_cases hk:k=[]
  ·subst hk;refine⟨.slice none 0 0,w,?_,Own.nil e w base,⟨rfl,rfl,rfl,Nat.le_refl _,fun _ _ _=>rfl⟩,.inl rfl⟩;have hc:=hs'.cells;have hn:=hs'.len;simp only[List.length_nil]at hc hn;rcases hs.kind with ⟨e',hk'⟩|hk'<;>simp[Builtin.append_,run_underlying ht,run_underlying hk',sizeOf,typeInfo,hi,hn,hc]
  ·have hkl:0<k.length:=List.length_pos_iff.2 hk;have hr:=run_append_grow_src (P:=P) w t tx ty e i (.int .u8 0) ht hi hz none 0 0 [] (run_firstCells_none w.drew i.size 0 0 0) x k.length (bcs k) hs' (by omega) (by simp only[List.length_nil]at hb;omega)
    (growslice_fits (by omega) (by rw[hby];simp only[List.length_nil]at hb;omega))
   have hgr:=grown 0 (by omega) (Value.ownBlock (.slice none 0 0));exact⟨_,_,hr,hgr.1,hgr.2,.inr rfl⟩
 ·by_cases hroom:l.length+k.length<=cap
  ·have hf:=hs'.cells;have hfit:l.length*i.size+(bcs k).length<=cur.size:=by rw[hsize,hcs,Bf];omega
   have hst:=run_storeCells_at P g (l.length*i.size) e (bcs k) 0 cur w hg (by simpa using hfit) hs.one;simp only[Nat.add_zero]at hst;have hr:(Builtin.append_ #[t,tx] ty #[.slice (some ⟨g,0,none⟩) l.length cap,x]).run P w =
     .ok (.slice (some ⟨g,0,none⟩) (l.length+k.length) cap) (w.setRow g (cur.toList.take (l.length*i.size)++bcs k++cur.toList.drop (l.length*i.size+(bcs k).length)).toArray):=by
    rcases hs.kind with ⟨e',hk'⟩|hk'<;>simp[Builtin.append_,run_underlying ht,run_underlying hk',sizeOf,typeInfo,hi,hs.len,hroom,hf,Addr.add_lit,hst]
   refine⟨_,_,hr,⟨by rw[Cu,hlen,List.length_append,Nat.mul_one],.inr ⟨g,cap,_,by rw[List.length_append],hbg,setRow_heap w g cur _ e _ hg,by rw[List.length_append];exact hroom,hcm,?_,?_⟩⟩,⟨rfl,rfl,rfl,by simp,fun k' _ hk=>setRow_other w g k' _ (fun e=>hk (by simp[Value.ownBlock,e]))⟩,.inl rfl⟩
   ·simp only[List.size_toArray,List.length_append,List.length_take,List.length_drop,Array.length_toList,Bf,hsize];omega
   ·rw[hsize,htake,List.length_append,Nat.mul_one,Cu,<-hlen];exact List.take_left
  ·have holds:∀j u,(bcs l)[j]?=some u->w.cell? ((⟨g,0,none⟩:Addr).add j)=some u:=World.ownsRow.cells hown (g:=g) rfl;have hr:=run_append_grow_src (P:=P) w t tx ty e i (.int .u8 0) ht hi hz (some ⟨g,0,none⟩) l.length cap (bcs l) (run_firstCells_some w.drew i.size l.length ⟨g,0,none⟩ l.length cap (bcs l) (by rw[hsize,Bf,Nat.mul_one]) (by simpa using holds)) x k.length (bcs k) hs' (by omega) (by omega)
    (growslice_fits (by omega) (by rw[hby];omega))
   have hgr:=grown cap (by omega) (Value.ownBlock (.slice (some ⟨g,0,none⟩) l.length cap));exact⟨_,_,hr,hgr.1,hgr.2,.inr rfl⟩
theorem EI{P:Program}(w:World){o:Oper}{a:Act}{K:Act->World->Prop}{Q:Exit->Act->World->Prop}(s x:Operand)(t tx:TypeId)
  (ho:o.op=.call { callee:=.builtin .append,args:=#[s,x],argTypes:=#[t,tx] }) (base:Nat) (e:TypeId) (i:TypeInfo) (ht:P.underlying t=some (.slice e)) (hi:P.info? e=some i) (hz:i.zero=some (.int .u8 0))
  (hsize:i.size=1) (hby:i.bytes=1) (v:Value) (l:List UInt8) (hs:a.eval s=v) (hown:Own e w base v l) (xv:Value) (k:List UInt8) (hx:a.eval x=xv) (hsrc:Src P 1 tx xv k.length (bcs k) w)
  (hb:l.length+k.length<=140737488355328) (hbase:base<=w.heap.size)
  (h:∀v' w',Own e w' base v' (l++k)->w.grownBy w' v.ownBlock->(v'.ownBlock=v.ownBlock\/v'.ownBlock=some w.heap.size)->K (a.put o.dst v') w'):o.wp P a w K Q:=by
 obtain⟨v',w',hr,h2,h3,h4⟩:=CP (P:=P) w base t tx o.type e i ht hi hz hsize hby v l hown xv k hsrc hb hbase;unfold Oper.wp execOp;simp only[ho,resolve,invoke,builtin,Sem.run_bind,Sem.run_pure,Result.andThen_ok,List.map_toArray,List.map_cons,List.map_nil,hs,hx,hr];exact h v' w' h2 h3 h4
theorem AJ{P:Program}(w:World){ops:Array Oper}{rest:List Oper}{o:Oper}{a:Act}{Q:Exit->Act->World->Prop}(hgd:o.guard=none)(s x:Operand)(t tx:TypeId)
  (ho:o.op=.call { callee:=.builtin .append,args:=#[s,x],argTypes:=#[t,tx] }) (base:Nat) (e:TypeId) (i:TypeInfo) (ht:P.underlying t=some (.slice e)) (hi:P.info? e=some i) (hz:i.zero=some (.int .u8 0))
  (hsize:i.size=1) (hby:i.bytes=1) (v:Value) (l:List UInt8) (hs:a.eval s=v) (hown:Own e w base v l) (xv:Value) (k:List UInt8) (hx:a.eval x=xv) (hsrc:Src P 1 tx xv k.length (bcs k) w)
  (hb:l.length+k.length<=140737488355328) (hbase:base<=w.heap.size)
  (h:∀v' w',Own e w' base v' (l++k)->w.grownBy w' v.ownBlock->(v'.ownBlock=v.ownBlock\/v'.ownBlock=some w.heap.size)->wpList P ops Q rest (a.put o.dst v') w'):wpList P ops Q (o::rest) a w :=
 wpList_plain hgd fun _ hK=>EI w s x t tx ho base e i ht hi hz hsize hby v l hs hown xv k hx hsrc hb hbase fun v' w' h2 h3 h4=>hK _ _ (h v' w' h2 h3 h4)
theorem CH{P:Program}(w:World)(src dst e:TypeId)(hs:P.underlying src=some (.slice e))(he:P.underlying e=some (.int .u8))(hd:P.underlying dst=some .string){base:Nat}{v:Value}{l:List UInt8}(h:Own e w base v l) :
  (convert src dst v).run P w=.ok (.string ⟨l.toArray⟩) w:=by
 rcases h.shape with ⟨rfl,rfl⟩|⟨g,cap,rfl,_,_,hc⟩
 ·rw[run_convert_bytes_nil w src e hs he 0 0 dst hd];rfl
 ·exact run_convert_bytes_back w src dst e ⟨g,0,none⟩ cap l hs he hd (fun j hj=>by rw[<-hc j hj];congr 1;simp[Addr.add];omega)
theorem Eu{w w1 w2:World}{row row':Option Nat}(h:w.grownBy w1 row)(h':w1.grownBy w2 row')(hr:row'=row\/∃k,row'=some k/\w.heap.size<=k):w.grownBy w2 row :=
 ⟨h'.os.trans h.os,h'.tape.trans h.tape,h'.output.trans h.output,Nat.le_trans h.size h'.size,fun k hk hne=>by
  rw[h'.block k (Qd hk h.size) (by
   rcases hr with rfl|⟨k',rfl,hk'⟩
   ·exact hne
   ·intro he;cases he;omega)]
  exact h.block k hk hne⟩
def Fr(w:World)(v:Value)(w':World)(v':Value):Prop:=w.grownBy w' v.ownBlock/\(v'.ownBlock=v.ownBlock\/∃g,v'.ownBlock=some g/\w.heap.size<=g)
theorem Fr.refl(w:World)(v:Value):Fr w v w v:=⟨World.grownBy.refl w _,.inl rfl⟩
theorem Fr.alloc{w:World}{v:Value}{w1:World}{b:Value}(h:Fr w v w1 b)(o:Obj):Fr w v (w1.alloc o) b :=
 ⟨Eu h.1 (World.grownBy_alloc w1 o v.ownBlock) (.inl rfl),h.2⟩
theorem Fr.step{w:World}{v:Value}{w1:World}{b:Value}{w2:World}{b':Value}(h:Fr w v w1 b)(hg:w1.grownBy w2 b.ownBlock)(hb:b'.ownBlock=b.ownBlock\/b'.ownBlock=some w1.heap.size):Fr w v w2 b':=by
 refine⟨Eu h.1 hg h.2,?_⟩;rcases hb with hb|hb
 ·rw[hb];exact h.2
 ·exact .inr ⟨_,hb,h.1.size⟩
theorem H9{P:Program}(w:World)(t e:TypeId)(ht:P.underlying t=some (.slice e))(c:UInt8)(z:Int)(hz:z=(c.toNat:Int)) :
  Src P 1 t (.slice (some ⟨w.heap.size,0,none⟩) 1 1) [c].length (bcs [c]) (w.alloc (.cells #[.int .u8 z] e)):=by
 subst hz;refine Src.ofSlice (e':=e) _ ht ⟨w.heap.size,0,none⟩ 1 1 (bcs [c]) (by simp[bcs]) ?_ (EK [c]);intro j u hj;match j,hj with
 | 0,hj=>simp[bcs]at hj;subst hj;simp[Addr.add]
theorem Lr{P:Program}(w:World)(tx:TypeId)(hk:P.underlying tx=some .string)(s:ByteArray):Src P 1 tx (.string s) s.data.toList.length (bcs s.data.toList) w:=by
 have h:=Src.ofString (P:=P) w hk s;have e:s.data.toList.length=s.size:=by rw[Array.length_toList];rfl
 rw[e];exact h
end Go.Proofs.YtgcgacjhkhjhmaaGreatDoor
namespace Go.Proofs.YtgcgacjhkhjhmaaGreatDoor
open Go Go.RowKit
open Go.ChangeMaps (setBlock)
structure Kp (S:Nat->Prop) (w w':World):Prop where
 os:w'.os=w.os
 tape:w'.tape=w.tape
 output:w'.output=w.output
 size:w.heap.size<=w'.heap.size
 block:∀k,k<w.heap.size->¬S k->w'.heap[k]?=w.heap[k]?
def none':Nat->Prop:=fun _=>False
theorem Kp.refl(S:Nat->Prop)(w:World):Kp S w w:=⟨rfl,rfl,rfl,Nat.le_refl _,fun _ _ _=>rfl⟩
theorem Kp.trans{S S' S'':Nat->Prop}{w w1 w2:World}(h:Kp S w w1)(h':Kp S' w1 w2)(h1:∀k,k<w.heap.size->S k->S'' k)(h2:∀k,k<w.heap.size->S' k->S'' k):Kp S'' w w2 :=
 ⟨h'.os.trans h.os,h'.tape.trans h.tape,h'.output.trans h.output,Nat.le_trans h.size h'.size,fun k hk hn=>by
  rw[h'.block k (Qd hk h.size) (fun hs=>hn (h2 k hk hs)),h.block k hk (fun hs=>hn (h1 k hk hs))]⟩
theorem Kp.then{S:Nat->Prop}{w w1 w2:World}(h:Kp S w w1)(h':Kp S w1 w2):Kp S w w2:=h.trans h' (fun _ _ h=>h) (fun _ _ h=>h)
theorem Kp.thenN{S:Nat->Prop}{w w1 w2:World}(h:Kp S w w1)(h':Kp none' w1 w2):Kp S w w2:=h.trans h' (fun _ _ h=>h) (fun _ _ h=>h.elim)
theorem Kp.nThen{S:Nat->Prop}{w w1 w2:World}(h:Kp none' w w1)(h':Kp S w1 w2):Kp S w w2:=h.trans h' (fun _ _ h=>h.elim) (fun _ _ h=>h)
theorem Kp.mono{S S':Nat->Prop}{w w1:World}(h:Kp S w w1)(hs:∀k,k<w.heap.size->S k->S' k):Kp S' w w1 :=
 ⟨h.os,h.tape,h.output,h.size,fun k hk hn=>h.block k hk (fun hk'=>hn (hs k hk hk'))⟩
theorem Kp.ofGrown{w w':World}{row:Option Nat}(h:w.grownBy w' row){S:Nat->Prop}(hr:∀k,row=some k->k<w.heap.size->S k):Kp S w w' :=
 ⟨h.os,h.tape,h.output,h.size,fun k hk hn=>h.block k hk (fun he=>hn (hr k he.symm hk))⟩
theorem Kp.ofN{w w':World}(h:w.grownBy w' none)(S:Nat->Prop):Kp S w w':=.ofGrown h (fun _ he _=>by cases he)
theorem Kp.grown{w w':World}(h:Kp none' w w'):w.grownBy w' none:=⟨h.os,h.tape,h.output,h.size,fun k hk _=>h.block k hk (fun hf=>hf)⟩
theorem Kp.alloc(S:Nat->Prop)(w:World)(o:Obj):Kp S w (w.alloc o):=.ofN (World.grownBy_alloc w o none) S
theorem Kp.drew(S:Nat->Prop)(w:World):Kp S w w.drew:=⟨rfl,rfl,rfl,Nat.le_refl _,fun _ _ _=>rfl⟩
theorem Kp.setCell{S:Nat->Prop}(w:World)(b o:Nat)(v:Value)(hb:S b):Kp S w (w.setCell ⟨b,o,none⟩ v) :=
 ⟨rfl,rfl,rfl,by simp,fun k _ hk=>heap_setCell_other w _ k _ (fun hh=>hk (by subst hh;exact hb))⟩
theorem Kp.setCells{S:Nat->Prop}(b:Nat)(hb:S b):∀(vs:List Value) (o:Nat) (w:World),Kp S w (w.setCells b o vs)
 | [],_,w=>.refl S w
 | v::r,o,w=>(Kp.setCell w b o v hb).then (Kp.setCells b hb r (o+1) _)
theorem Kp.setBlock{S:Nat->Prop}(w:World)(b:Nat)(o:Obj)(hb:S b):Kp S w (setBlock w b o) :=
 ⟨rfl,rfl,rfl,by simp[ChangeMaps.setBlock],fun k _ hk=>by
  unfold ChangeMaps.setBlock
  have:b≠k:=fun e=>hk (e▸hb)
  simp[this]⟩
theorem Kp.cell{S:Nat->Prop}{w w':World}(h:Kp S w w'){b o:Nat}{v:Value}(hc:w.cell? ⟨b,o,none⟩=some v)(hb:¬S b):w'.cell? ⟨b,o,none⟩=some v:=by
 have hlt:b<w.heap.size:=by
  unfold World.cell? at hc;split at hc
  ·rename_i he;exact(Array.getElem?_eq_some_iff.1 he).1
  ·cases hc
 rw[World.cell?_of_block (w:=w) (h.block b hlt hb)];exact hc
theorem lt_of_cell{w:World}{b o:Nat}{v:Value}(hc:w.cell? ⟨b,o,none⟩=some v):b<w.heap.size:=by
 unfold World.cell? at hc;split at hc
 ·rename_i he;exact(Array.getElem?_eq_some_iff.1 he).1
 ·cases hc
theorem Kp.frozen{S:Nat->Prop}{w w':World}(h:Kp S w w'){b o:Nat}(hl:b<w.heap.size)(hb:¬S b):w'.frozen? ⟨b,o,none⟩=w.frozen? ⟨b,o,none⟩ :=
 World.frozen?_of_block (h.block b hl hb)
theorem Kp.rangeAt{S:Nat->Prop}{w w':World}(h:Kp S w w'){b o:Nat}{cs:List Value}(hc:w.rangeAt b o cs)(hb:¬S b):w'.rangeAt b o cs:=fun j v hv=>h.cell (hc j v hv) hb
theorem Kp.there{S:Nat->Prop}{w w':World}(h:Kp S w w'){b o n:Nat}(hc:w.there b o n)(hb:¬S b):w'.there b o n:=fun j hj=>by
 obtain⟨h1,h2⟩:=hc j hj
 obtain⟨v,hv⟩:=Option.isSome_iff_exists.1 h1
 exact⟨by rw[h.cell hv hb];rfl,by rw[h.frozen (lt_of_cell hv) hb];exact h2⟩
def secV(l:List UInt8):Value:=.agg (bcs l).toArray
theorem Kp.drewN(S:Nat->Prop)(w:World)(n:Nat):Kp S w (w.drewN n):=⟨rfl,rfl,rfl,Nat.le_refl _,fun _ _ _=>rfl⟩
def Sl{α:Type}(f:α->Value)(B:Nat)(w:World)(v:Value)(l:List α):Prop :=
 ∃a c,v=.slice a l.length c/\l.length<=c/\c<=maxLen/\∀i (h:i<l.length),∃b off,a=some ⟨b,off,none⟩/\b<B/\w.cell? ⟨b,off+i,none⟩=some (f l[i])
theorem Sl.nil{α:Type}(f:α->Value)(B:Nat)(w:World):Sl f B w (.slice none 0 0) []:=⟨none,0,rfl,Nat.le_refl _,Nat.zero_le _,fun i h=>absurd h (by simp)⟩
theorem Sl.kept{α:Type}{f:α->Value}{B:Nat}{w w':World}{v:Value}{l:List α}{S:Nat->Prop}(h:Sl f B w v l)(hk:Kp S w w')(hS:∀k,k<B->¬S k):Sl f B w' v l:=by
 obtain⟨a,c,rfl,h1,h2,h3⟩:=h;refine⟨a,c,rfl,h1,h2,fun i hi=>?_⟩;obtain⟨b,off,rfl,hb,c0⟩:=h3 i hi;exact⟨b,off,rfl,hb,hk.cell c0 (hS b hb)⟩
theorem reti{a b:Int}(h:a=b):Ending.returned (.int .i64 a)=.returned (.int .i64 b):=by rw[h]
theorem JC(l:List UInt8)(j:Nat)(h:j<l.length):(bcs l)[j]?=some (.int .u8 (l[j].toNat:Int)):=by simp[bcs,h]
def only(b:Nat):Nat->Prop:=fun k=>k=b
def Al:List UInt8:=List.replicate 64 0
theorem AM:Al.length=64:=by simp[Al]
theorem Ee(i:Int):∀(es:List MapEntry) (k:Nat),(∀e∈es,∃z:Int,e.key=.int .i64 z) ->
  (Instr.findNow (.int .i64) (.int .i64 i) es k=some none/\∀e∈es,e.key≠.int .i64 i)\/∃j e,es[j]?=some e/\e.key=.int .i64 i/\Instr.findNow (.int .i64) (.int .i64 i) es k=some (some (k+j,e.val))
 | [],k,_=>.inl ⟨rfl,by simp⟩
 | e::es,k,h=>by
  obtain⟨z,hz⟩:=h e (by simp)
  by_cases hi:i=z
  ·subst hi
   exact .inr ⟨0,e,rfl,hz,by simp[Instr.findNow,Instr.sameNow,hz]⟩
  ·have hb:(i==z)=false:=by simpa using hi
   rcases Ee i es (k+1) (fun e he=>h e (by simp[he]))with ⟨h1,h2⟩|⟨j,e',h1,h2,h3⟩
   ·refine .inl ⟨by simp[Instr.findNow,Instr.sameNow,hz,hb,h1],?_⟩
    intro e' he'
    rcases List.mem_cons.1 he' with rfl|he'
    ·rw[hz]
     intro hc
     exact hi (by cases hc;rfl)
    ·exact h2 e' he'
   ·exact .inr ⟨j+1,e',by simpa using h1,h2,by simp[Instr.findNow,Instr.sameNow,hz,hb,h3];omega⟩
theorem Bs(b:Bool)(i:Int)(w:World):(Instr.checkKey b 10000 3 (.int .i64 i)).run prog w=.ok () w:=by
 show (Instr.checkKey b (9999+1) 3 (.int .i64 i)).run prog w=.ok () w;unfold Instr.checkKey;rw[Sem.run_bind,run_underlying underlying3 w];rfl
theorem By{P:Program}{w:World}{ops:Array Oper}{rest:List Oper}{o:Oper}{a:Act}{Q:Exit->Act->World->Prop}(hgd:o.guard=none)(l c:Operand)(t:TypeId)(ho:o.op=.makeSlice t l c)
  (v u:Value) (hd:a.eval l=v) (hs:a.eval c=u) {v':Value} {w':World} (hr:(Instr.makeSlice t v u).run P w=.ok v' w') (h:wpList P ops Q rest (a.put o.dst v') w'):wpList P ops Q (o::rest) a w :=
 wpList_plain hgd fun _ hK=>by
  unfold Oper.wp execOp
  simp only[ho,Sem.run_bind,Sem.run_pure,Result.andThen_ok,hd,hs,hr]
  exact hK _ _ h
def Ow{α:Type}(f:α->Value)(e:TypeId)(w:World)(base:Nat)(v:Value)(l:List α):Prop:=w.ownsRow base e 1 v l.length (l.map f)
theorem Ow.nil{α:Type}(f:α->Value)(e:TypeId)(w:World)(base:Nat):Ow f e w base (.slice none 0 0) []:=World.ownsRow_nil w base e 1
theorem Ow.shape{α:Type}{f:α->Value}{e:TypeId}{w:World}{base:Nat}{v:Value}{l:List α}(h:Ow f e w base v l):(v=.slice none 0 0/\l=[]) \/
  ∃g cap,v=.slice (some ⟨g,0,none⟩) l.length cap/\base<=g/\g<w.heap.size/\(∀j (hj:j<l.length),w.cell? ⟨g,j,none⟩=some (f l[j])):=by
 have h':=h;rcases h.2 with ⟨rfl,h0⟩|⟨g,cap,cur,rfl,hb,hg,_⟩
 ·exact .inl ⟨rfl,List.eq_nil_of_length_eq_zero h0⟩
 ·refine .inr ⟨g,cap,rfl,hb,(Array.getElem?_eq_some_iff.1 hg).1,fun j hj=>?_⟩;have hc:=World.ownsRow.cellAt (g:=g) (cap:=cap) h' j (by omega);rw[hc];simp[hj]
theorem Ow.kept{α:Type}{f:α->Value}{e:TypeId}{w w':World}{base:Nat}{v:Value}{l:List α}{S:Nat->Prop}(h:Ow f e w base v l)(hk:Kp S w w')(hS:∀k,v.ownBlock=some k->¬S k):Ow f e w' base v l:=by
 rcases h.2 with ⟨rfl,h0⟩|⟨g,cap,cur,rfl,hb,hg,h1,h2,h3,h4⟩
 ·exact⟨h.1,.inl ⟨rfl,h0⟩⟩
 ·have hlt:g<w.heap.size:=(Array.getElem?_eq_some_iff.1 hg).1;exact⟨h.1,.inr ⟨g,cap,cur,rfl,hb,by rw[hk.block g hlt (hS g rfl)];exact hg,h1,h2,h3,h4⟩⟩
theorem Ow.lt{α:Type}{f:α->Value}{e:TypeId}{w:World}{base:Nat}{v:Value}{l:List α}(h:Ow f e w base v l):∀k,v.ownBlock=some k->base<=k/\k<w.heap.size:=World.ownsRow.lt h
theorem Ou{P:Program}(w:World)(t e:TypeId)(ht:P.underlying t=some (.slice e))(x:Value)(hx:x.oneCell'=true)(g:Nat)(hg:w.heap.size=g):Src P 1 t (.slice (some ⟨g,0,none⟩) 1 1) 1 [x] (w.alloc (.cells #[x] e)):=by
 subst hg;refine Src.ofSlice (e':=e) _ ht ⟨w.heap.size,0,none⟩ 1 1 [x] (by simp) ?_ (by intro u hu;simp at hu;subst hu;exact hx);intro j u hj;match j,hj with
 | 0,hj=>simp at hj;subst hj;simp[Addr.add]
 | (j+1),hj=>simp at hj
theorem infoI:(prog.info? 3).map (fun i=>(i.zero,i.size,i.bytes))=some (some (.int .i64 0),1,8):=by kernel_rfl
theorem hide{p:Prop}(h:p):Hid p:=h
theorem Ow.open{α:Type}{f:α->Value}{e:TypeId}{w:World}{base:Nat}{v:Value}{l:List α}(h:Ow f e w base v l):∃a c,v=.slice a l.length c/\∀j (hj:j<l.length),∃g,a=some ⟨g,0,none⟩/\base<=g/\w.cell? ⟨g,j,none⟩=some (f l[j]):=by
 rcases h.shape with ⟨rfl,rfl⟩|⟨g,cap,rfl,hb,_,hc⟩
 ·exact⟨none,0,rfl,fun j hj=>absurd hj (by simp)⟩
 ·exact⟨some ⟨g,0,none⟩,cap,rfl,fun j hj=>⟨g,rfl,hb,hc j hj⟩⟩
theorem Ow.stored{α:Type}{f:α->Value}{e:TypeId}{w:World}{base g n cap:Nat}{l:List α}(h:Ow f e w base (.slice (some ⟨g,0,none⟩) n cap) l)(j:Nat)(c:α) :
  Ow f e (w.setCell ⟨g,j,none⟩ (f c)) base (.slice (some ⟨g,0,none⟩) n cap) (l.set j c)/\w.grownBy (w.setCell ⟨g,j,none⟩ (f c)) (some g):=by
 have hn:n=l.length:=by
  rcases h.2 with ⟨h1,_⟩|⟨g',cap',cur,h1,_⟩
  ·cases h1
  ·cases h1;rfl
 subst hn;have h2:=World.ownsRow.stored (g:=g) (cap:=cap) h j (f c);refine⟨?_,h2.2⟩;have e1:(l.set j c).map f=(l.map f).set j (f c):=by simp[List.map_set]
 unfold Ow;rw[e1,List.length_set];exact h2.1
theorem Ow.sl{α:Type}{f:α->Value}{e:TypeId}{w:World}{base:Nat}{v:Value}{l:List α}(h:Ow f e w base v l):Sl f w.heap.size w v l:=by
 have h':=h;rcases h.2 with ⟨rfl,h0⟩|⟨g,cap,cur,rfl,hb,hg,h1,h2,_⟩
 ·have:l=[]:=List.eq_nil_of_length_eq_zero h0;subst this;exact Sl.nil _ _ _
 ·refine⟨some ⟨g,0,none⟩,cap,rfl,h1,h2,fun j hj=>⟨g,0,rfl,(Array.getElem?_eq_some_iff.1 hg).1,?_⟩⟩;have hc:=World.ownsRow.cellAt (g:=g) (cap:=cap) h' j (by omega);rw[Nat.zero_add,hc];simp[hj]
theorem Sl.keptN{α:Type}{f:α->Value}{B:Nat}{w w':World}{v:Value}{l:List α}(h:Sl f B w v l)(hk:Kp none' w w'):Sl f B w' v l:=h.kept hk (fun _ _ h=>h)
theorem Ow.keptN{α:Type}{f:α->Value}{e:TypeId}{w w':World}{base:Nat}{v:Value}{l:List α}(h:Ow f e w base v l)(hk:Kp none' w w'):Ow f e w' base v l:=h.kept hk (fun _ _ h=>h)
end Go.Proofs.YtgcgacjhkhjhmaaGreatDoor
namespace Go.Proofs.YtgcgacjhkhjhmaaGreatDoor
open Go.RowKit
def wid(k:Int):Nat:=if k<1 then 1 else if 8<k then 8 else k.toNat
theorem KD(k:Int):1<=wid k:=by unfold wid;split<;>(try split)<;>omega
theorem KC(k:Int):wid k<=8:=by unfold wid;split<;>(try split)<;>omega
theorem Er(k:Int)(w:World) :
  Calls prog 122 #[.int .i64 k] w fun e w'=>e=.returned (.int .i64 (wid k:Int))/\w'=w:=by
 by_cases h1:k<1
 ·have hw:((wid k:Nat):Int)=1:=by unfold wid;simp[h1]
  rw[hw];clear hw;go_enter func122,ntmps122;go_wp2;go_ret;exact⟨rfl,rfl⟩
 ·by_cases h8:8<k
  ·have hw:((wid k:Nat):Int)=8:=by unfold wid;simp[h1,h8]
   rw[hw];clear hw;go_enter func122,ntmps122;go_wp2;go_ret;exact⟨rfl,rfl⟩
  ·have hw:((wid k:Nat):Int)=k:=by unfold wid;simp[h1,h8];omega
   rw[hw];clear hw;go_enter func122,ntmps122;go_wp2;go_ret;exact⟨rfl,rfl⟩
theorem Tryz.info5:(prog.info? 5).map (fun i=>(i.zero,i.size,i.bytes))=some (some (.int .u8 0),1,1):=by kernel_rfl
def be(n:Nat):Nat->List UInt8
 | 0=>[]
 | m+1=>UInt8.ofNat (n / 2 ^ (8*m))::be n m
theorem B3(n m:Nat):(be n m).length=m:=by
 induction m with
 | zero=>rfl
 | succ m ih=>simp[be,ih]
theorem PH(n m:Nat):(n:Int) / 2 ^ (8*m)%256=((UInt8.ofNat (n / 2 ^ (8*m))).toNat:Int):=by
 rw[UInt8.toNat_ofNat'];simp
set_option maxRecDepth 100000 in
theorem DP(v:Value)(l:List UInt8)(n:Nat)(k:Int)(base:Nat)(w:World)(hn:(n:Int)<18446744073709551616)(hown:Own 5 w base v l)(hb:base<=w.heap.size)(hl:l.length<=140737488355300) :
  Calls prog 86 #[v,.int .u64 n,.int .i64 k] w fun e w'=>∃v',e=.returned v'/\Own 5 w' base v' (l++be n (wid k))/\Fr w v w' v':=by
 have hlo:=KD k;have hhi:=KC k;obtain⟨i0,hi,hz0,hz1,hz2⟩:=info_parts Tryz.info5;have Hl:Hid (l.length<=140737488355300):=hl;have Hn:Hid ((n:Int)<18446744073709551616):=hn;clear hl hn;go_enter func86,ntmps86;go_wp2_with (go_at_call 122;refine(Er _ _).mono ?_;rintro e w' ⟨rfl,hw⟩;rw[hw];clear hw w')
 go_loopw [0,7] (fun b i wr=>∃j:Nat,j<=wid k/\i=.int .i64 ((j:Int) - 1)/\∃pre:List UInt8,Own 5 wr base b (l++pre)/\Hid (pre++be n j=be n (wid k))/\Fr w v wr b) (fun _ i _=>(intOf i+1).toNat)
 case atStart=>exact⟨wid k,Nat.le_refl _,rfl,[],by simpa using hown,rfl,Fr.refl _ _⟩
 case round =>
  obtain⟨j,hj,rfl,pre,ho,Hp,hf⟩:=hrel;have hbw:base<=wr.heap.size:=Nat.le_trans hb hf.1.size;clear hown;rcases Nat.eq_zero_or_pos j with h0|h0
  ·subst h0;have Hr:Own 5 wr base u0 (l++be n (wid k)):=by have:=Hp.out;simp only[be,List.append_nil]at this;rw[<-this];exact ho
   go_wp2;go_ret;exact⟨_,rfl,Hr,hf⟩
  ·obtain⟨m,rfl⟩:∃m,j=m+1:=⟨j - 1,by omega⟩;have hm:m<=7:=by omega
   have em:((m+1:Nat):Int) - 1=(m:Int):=by omega
   rw[em];have hpl:pre.length<=8:=by have:=congrArg List.length Hp.out;rw[List.length_append,B3,B3]at this;omega
   clear em h0;have hm0:(0:Int)<=(m:Int):=by omega
   have hm1:(m:Int)<=7:=by omega
   have hlen:(l++pre).length+1<=140737488355328:=by have:=Hl.out;rw[List.length_append];omega
   have Hlen:Hid ((l++pre).length+1<=140737488355328):=hlen;clear hlen;go_wp2_with (at_builtin;refine AJ _ rfl (.tmp 15) (.tmp 21) 112 112 rfl base 5 i0 underlying112 hi hz0 hz1 hz2 u0 _ rfl (ho.alloc _) _ [UInt8.ofNat (n / 2 ^ (8*m))] rfl (H9 wr 112 5 underlying112 _ _ (PH n m)) Hlen.out (by simp;omega) ?_;intro v' w1 ho' hg' hv');go_roundw
   case rel =>
    refine⟨m,by omega,rfl,pre++[UInt8.ofNat (n / 2 ^ (8*m))],by simpa using ho',?_,?_⟩
    ·have:=Hp.out;simp only[be]at this;show _=_;rw[<-this];simp
    ·exact(hf.alloc _).step hg' (by simpa using hv')
   case measure=>simp[intOf]
def Rd(w:World)(b:Nat)(s:ByteArray)(e:Int):Prop:=w.heap[b]?=some (.cells #[.string s,.int .i64 e] 200 (0,0))
theorem Rd.c0{w:World}{b:Nat}{s:ByteArray}{e:Int}(h:Rd w b s e):w.cell? ⟨b,0,none⟩=some (.string s):=by
 rw[cell_of_row w b 0 _ 200 (0,0) h];rfl
theorem Rd.c1{w:World}{b:Nat}{s:ByteArray}{e:Int}(h:Rd w b s e):w.cell? ⟨b,1,none⟩=some (.int .i64 e):=by
 rw[cell_of_row w b 1 _ 200 (0,0) h];rfl
theorem Rd.fz{w:World}{b:Nat}{s:ByteArray}{e:Int}(h:Rd w b s e)(j:Nat):w.frozen? ⟨b,j,none⟩=false:=by
 unfold World.frozen?;rw[show w.heap[(⟨b,j,none⟩:Addr).block]?=_ from h];simp
theorem Rd.lt{w:World}{b:Nat}{s:ByteArray}{e:Int}(h:Rd w b s e):b<w.heap.size:=(Array.getElem?_eq_some_iff.1 h).1
theorem Rd.new(w:World)(s:ByteArray)(e:Int):Rd (w.alloc (.cells #[.string s,.int .i64 e] 200)) w.heap.size s e:=heap_alloc_new w _
theorem DG(b:Nat)(s:ByteArray)(e:Int)(w:World)(h:Rd w b s e) :
  Calls prog 139 #[.pointer (some ⟨b,0,none⟩)] w fun x w'=>x=.returned (.int .i64 e)/\w'=w:=by
 have h0:=h.c0;have h1:=h.c1;go_enter func139,ntmps139;go_wp2;go_ret;exact⟨rfl,rfl⟩
theorem NO(b:Nat)(s:ByteArray)(e:Int)(w:World)(h:Rd w b s e) :
  Calls prog 138 #[.pointer (some ⟨b,0,none⟩)] w fun x w'=>x=.returned (.int .i64 s.size)/\w'=w:=by
 have h0:=h.c0;have h1:=h.c1;go_enter func138,ntmps138;go_wp2;go_ret;exact⟨rfl,rfl⟩
theorem AS(b:Nat)(s:ByteArray)(e:Int)(w:World)(h:Rd w b s e) :
  Calls prog 163 #[.pointer (some ⟨b,0,none⟩)] w fun x w'=>x=.returned (.bool (e != 0))/\w'=w:=by
 go_enter func163,ntmps163;go_wp2_with (go_at_call 139;refine(DG _ _ _ _ h).mono ?_;rintro x w' ⟨rfl,rfl⟩);go_ret;exact⟨rfl,rfl⟩
theorem DH(b:Nat)(s:ByteArray)(e x:Int)(w:World)(h:Rd w b s e) :
  Calls prog 164 #[.pointer (some ⟨b,0,none⟩),.int .i64 x] w fun y w'=>y=.returned (.string ByteArray.empty)/\w'=w.setCell ⟨b,1,none⟩ (.int .i64 x):=by
 have h0:=h.c0;have h1:=h.c1;have hz:=h.fz 1;go_enter func164,ntmps164;go_wp2;go_ret;exact⟨rfl,rfl⟩
theorem Jh(b:Nat)(s:ByteArray)(e:Int)(k:Nat)(w:World)(h:Rd w b s e)(hk:k<=s.size)(hs:s.size<=maxLen) :
  Calls prog 165 #[.pointer (some ⟨b,0,none⟩),.int .i64 k] w fun y w'=>y=.returned (.string (s.extract 0 k))/\w'=w.setCell ⟨b,0,none⟩ (.string (s.extract k s.size)):=by
 have h0:=h.c0;have h1:=h.c1;have hz:=h.fz 0;unfold maxLen at hs;go_enter func165,ntmps165;go_wp2;go_ret;exact⟨rfl,rfl⟩
theorem Oy(b:Nat)(s:ByteArray)(e:Int)(n:Nat)(w:World)(h:Rd w b s e)(hk:n<s.size)(hs:s.size<=maxLen) :
  Calls prog 165 #[.pointer (some ⟨b,0,none⟩),.int .i64 (1+(n:Int))] w fun y w'=>y=.returned (.string (s.extract 0 (1+n)))/\w'=w.setCell ⟨b,0,none⟩ (.string (s.extract (1+n) s.size)):=by
 have:=Jh b s e (1+n) w h (by omega) hs;rw[show ((1+n:Nat):Int)=1+(n:Int) from by omega]at this;exact this
theorem Nk(s:ByteArray)(w:World) :
  Calls prog 104 #[.string s] w fun y w'=>y=.returned (.pointer (some ⟨w.heap.size,0,none⟩))/\w'=w.alloc (.cells #[.string s,.int .i64 0] 200):=by
 go_enter func104,ntmps104;go_wp2;go_ret;exact⟨rfl,rfl⟩
def fitsB(n:Nat)(k:Int):Bool:=decide (n<2 ^ (8*wid k))
theorem OT(n:Nat)(k:Int):((n:Int) / 2 ^ (8*wid k)==0)=fitsB n k:=by
 unfold fitsB;rw[Bool.eq_iff_iff,beq_iff_eq,decide_eq_true_iff];have h2:0<2 ^ (8*wid k):=Nat.two_pow_pos _;have e:(n:Int) / 2 ^ (8*wid k)=((n / 2 ^ (8*wid k):Nat):Int):=by simp
 rw[e];constructor
 ·intro h;have h':n / 2 ^ (8*wid k)=0:=by omega
  exact(Nat.div_eq_zero_iff_lt h2).1 h'
 ·intro h;rw[Nat.div_eq_of_lt h];rfl
theorem Ng(n:Nat)(k:Int)(w:World)(hn:(n:Int)<18446744073709551616) :
  Calls prog 85 #[.int .u64 n,.int .i64 k] w fun y w'=>y=.returned (.bool (fitsB n k))/\w'=w:=by
 have hlo:=KD k;have hhi:=KC k;have Hn:Hid ((n:Int)<18446744073709551616):=hn;clear hn;go_enter func85,ntmps85;go_wp2_with (go_at_call 122;refine(Er _ _).mono ?_;rintro e w' ⟨rfl,rfl⟩);go_ret;exact⟨congrArg (fun x=>Ending.returned (Value.bool x)) (OT n k),rfl⟩
theorem Rd.set1{w:World}{b:Nat}{s:ByteArray}{e:Int}(h:Rd w b s e)(x:Int):Rd (w.setCell ⟨b,1,none⟩ (.int .i64 x)) b s x/\w.grownBy (w.setCell ⟨b,1,none⟩ (.int .i64 x)) (some b):=by
 refine⟨?_,⟨rfl,rfl,rfl,by simp,fun k _ hk=>heap_setCell_other w _ k _ (fun hb=>hk (by simp[hb]))⟩⟩;unfold Rd;rw[heap_setCell_same w b 1 _ 200 _ h];rfl
theorem Rd.set0{w:World}{b:Nat}{s:ByteArray}{e:Int}(h:Rd w b s e)(x:ByteArray):Rd (w.setCell ⟨b,0,none⟩ (.string x)) b x e/\w.grownBy (w.setCell ⟨b,0,none⟩ (.string x)) (some b):=by
 refine⟨?_,⟨rfl,rfl,rfl,by simp,fun k _ hk=>heap_setCell_other w _ k _ (fun hb=>hk (by simp[hb]))⟩⟩;unfold Rd;rw[heap_setCell_same w b 0 _ 200 _ h];rfl
def rawR(s:ByteArray)(e k:Int):ByteArray:=if e≠0\/k<0\/(s.size:Int)<k then ByteArray.empty else s.extract 0 k.toNat
def rawS(s:ByteArray)(e k:Int):ByteArray:=if e≠0\/k<0\/(s.size:Int)<k then s else s.extract k.toNat s.size
def rawE(s:ByteArray)(e k:Int):Int:=if e≠0 then e else if (s.size:Int)<k then 2 else 0
theorem Ll(b:Nat)(s:ByteArray)(e k:Int)(w:World)(h:Rd w b s e)(hs:s.size<=maxLen) :
  Calls prog 137 #[.pointer (some ⟨b,0,none⟩),.int .i64 k] w fun y w'=>y=.returned (.string (rawR s e k))/\Rd w' b (rawS s e k) (rawE s e k)/\w.grownBy w' (some b):=by
 have h0:=h.c0;have h1:=h.c1;by_cases he:e=0
 ·subst he;by_cases hk:k<0
  ·have e1:rawR s 0 k=ByteArray.empty:=by simp[rawR,hk]
   have e2:rawS s 0 k=s:=by simp[rawS,hk]
   have e3:rawE s 0 k=0:=by unfold rawE;simp;omega
   rw[e1,e2,e3];clear e1 e2 e3;go_enter func137,ntmps137;go_wp2_with (go_at_call 163;refine(AS _ _ _ _ h).mono ?_;rintro x w' ⟨rfl,rfl⟩);go_ret;exact⟨rfl,h,World.grownBy.refl _ _⟩
  ·by_cases hl:(s.size:Int)<k
   ·have e1:rawR s 0 k=ByteArray.empty:=by simp[rawR,hl]
    have e2:rawS s 0 k=s:=by simp[rawS,hl]
    have e3:rawE s 0 k=2:=by simp[rawE,hl]
    rw[e1,e2,e3];clear e1 e2 e3;go_enter func137,ntmps137;go_wp2_with (first|(go_at_call 163;refine(AS _ _ _ _ h).mono ?_;rintro x w' ⟨rfl,rfl⟩)|(go_at_call 164;refine(DH _ _ _ _ _ h).mono ?_;rintro x w' ⟨rfl,rfl⟩));go_ret;exact⟨rfl,(h.set1 2).1,(h.set1 2).2⟩
   ·obtain⟨m,rfl⟩:=Int.eq_ofNat_of_zero_le (by omega:0<=k);have hm:m<=s.size:=by omega
    have e1:rawR s 0 m=s.extract 0 m:=by unfold rawR;rw[if_neg (by omega)];simp
    have e2:rawS s 0 m=s.extract m s.size:=by unfold rawS;rw[if_neg (by omega)];simp
    have e3:rawE s 0 m=0:=by unfold rawE;simp;omega
    rw[e1,e2,e3];clear e1 e2 e3;go_enter func137,ntmps137;go_wp2_with (first|(go_at_call 163;refine(AS _ _ _ _ h).mono ?_;rintro x w' ⟨rfl,rfl⟩)|(go_at_call 165;refine(Jh _ _ _ m _ h hm hs).mono ?_;rintro x w' ⟨rfl,rfl⟩));go_ret;exact⟨rfl,(h.set0 _).1,(h.set0 _).2⟩
 ·have e1:rawR s e k=ByteArray.empty:=by simp[rawR,he]
  have e2:rawS s e k=s:=by simp[rawS,he]
  have e3:rawE s e k=e:=by simp[rawE,he]
  rw[e1,e2,e3];have he':(e != 0)=true:=by simp[he]
  clear e1 e2 e3 he;go_enter func137,ntmps137;go_wp2_with (go_at_call 163;refine(AS _ _ _ _ h).mono ?_;rintro x w' ⟨rfl,rfl⟩);go_ret;exact⟨rfl,h,World.grownBy.refl _ _⟩
def val(l:List UInt8):Nat:=l.foldl (fun a b=>a*256+b.toNat) 0
theorem OI(l:List UInt8)(c:UInt8):val (l++[c])=val l*256+c.toNat:=by simp[val]
theorem OV(l:List UInt8):∀a:Nat,l.foldl (fun a b=>a*256+b.toNat) a<(a+1)*256 ^ l.length:=by
 induction l with
 | nil=>intro a;simp
 | cons c l ih =>
  intro a;have h:=ih (a*256+c.toNat);have hc:=c.toNat_lt;have h2:(a*256+c.toNat+1)*256 ^ l.length<=((a+1)*256)*256 ^ l.length:=Nat.mul_le_mul_right _ (by omega);simp only[List.foldl_cons,List.length_cons,Nat.pow_succ];refine Qd h (Nat.le_trans h2 (Nat.le_of_eq ?_));rw[Nat.mul_assoc,Nat.mul_comm 256]
theorem OH(l:List UInt8):val l<256 ^ l.length:=by have:=OV l 0;simpa[val]using this
theorem MC(s:ByteArray)(k:Nat)(h:k<s.size):s.data.toList.take (k+1)=s.data.toList.take k++[s[k]]:=by
 rw[List.take_succ_eq_append_getElem (by simpa using h)];rfl
theorem Pd(x:Nat)(c:UInt8)(hx:x<72057594037927936):bits .or .u64 (IntKind.u64.wrap ((x:Int)*256)) (IntKind.u64.wrap (c.toNat:Int))=((x*256+c.toNat:Nat):Int):=by
 have hc:=c.toNat_lt;have e1:IntKind.u64.wrap ((x:Int)*256)=((x*256:Nat):Int):=by rw[IntKind.wrap_u64];omega
 have e2:IntKind.u64.wrap (c.toNat:Int)=(c.toNat:Int):=by rw[IntKind.wrap_u64];omega
 rw[e1,e2,u64_or_nat _ _ (by omega) (by omega),nat_join 8 (x*256) c.toNat (by omega) (by omega)]
theorem Ek(s:ByteArray)(e k:Int):((rawR s e k).size:Int)<=k\/(rawR s e k).size=0:=by
 unfold rawR;split
 ·exact .inr rfl
 ·left;rw[ByteArray.size_extract];omega
set_option maxRecDepth 100000 in
theorem FF(b:Nat)(s:ByteArray)(e k:Int)(w:World)(h:Rd w b s e)(hs:s.size<=maxLen) :
  Calls prog 105 #[.pointer (some ⟨b,0,none⟩),.int .i64 k] w fun y w'=>y=.returned (.int .u64 (val (rawR s e (wid k)).data.toList))/\Rd w' b (rawS s e (wid k)) (rawE s e (wid k))/\w.grownBy w' (some b):=by
 have hlo:=KD k;have hhi:=KC k;obtain⟨r,hr⟩:∃r,r=rawR s e (wid k):=⟨_,rfl⟩;have hrs:r.size<=8:=by rw[hr];have:=Ek s e (wid k);omega
 rw[<-hr];have Hr:Hid (r=rawR s e (wid k)):=hr;clear hr;go_enter func105,ntmps105;go_wp2_with (first|(go_at_call 122;refine(Er _ _).mono ?_;rintro e w' ⟨rfl,rfl⟩)|(go_at_call 137;refine(Ll _ _ _ _ _ h hs).mono ?_;rintro x w1 ⟨rfl,hR,hG⟩;rw[<-Hr.out]));go_loop [5,14] (fun n i=>∃j:Nat,j<=r.size/\i=.int .i64 j/\n=.int .u64 (val (r.data.toList.take j))) (fun _ i=>r.size - (intOf i).toNat)
 case atStart=>exact⟨0,Nat.zero_le _,rfl,rfl⟩
 case round =>
  obtain⟨j,hj,rfl,rfl⟩:=hrel;by_cases hlt:j<r.size
  ·have Ht:Hid (val (r.data.toList.take (j+1))=val (r.data.toList.take j)*256+r[j].toNat):=by rw[MC r j hlt];exact OI _ _
   have Hx:Hid (val (r.data.toList.take j)<72057594037927936):=by
    have h1:=OH (r.data.toList.take j);have h2:(r.data.toList.take j).length<=7:=by simp;omega
    exact Qd h1 (Nat.le_trans (Nat.pow_le_pow_right (by omega) h2) (by omega))
   go_wp2;go_round
   case rel=>exact⟨j+1,by omega,by go_num,by rw[Pd _ _ Hx.out,Ht.out]⟩
   case measure=>simp[intOf];omega
  ·have Ht:Hid (r.data.toList.take j=r.data.toList):=List.take_of_length_le (by simp;omega);go_wp2;go_ret;exact⟨congrArg (fun l=>Ending.returned (Value.int .u64 ((val l:Nat):Int))) Ht.out,hR,hG⟩
def strN(s:ByteArray):Nat:=s.data.toList.headD 0 |>.toNat
def strOk(s:ByteArray)(e most:Int):Bool:=decide (e=0/\0<s.size/\(strN s:Int)<=most/\strN s<s.size)
def strR(s:ByteArray)(e most:Int):ByteArray:=if strOk s e most then s.extract 1 (1+strN s) else ByteArray.empty
def strS(s:ByteArray)(e most:Int):ByteArray:=if strOk s e most then s.extract (1+strN s) s.size else s
def strE(s:ByteArray)(e most:Int):Int:=if e≠0 then e else if s.size=0 then 2 else if most<(strN s:Int) then 3 else if s.size<=strN s then 2 else 0
theorem Lt(s:ByteArray)(h:0<s.size):(s[0].toNat:Int)=(strN s:Int):=by
 have hl:0<s.data.toList.length:=by simpa using h
 have:s.data.toList.headD 0=s[0]:=by
  cases hd:s.data.toList with
  | nil=>rw[hd]at hl;simp at hl
  | cons c r =>
   show c=s.data[0];have e0:s.data.toList[0]=c:=by simp[hd]
   rw[<-e0];rfl
 unfold strN;rw[this]
theorem ext_list(s:ByteArray)(a b:Nat):(s.extract a b).data.toList=(s.data.toList.drop a).take (b - a):=by
 rw[ByteArray.data_extract];simp[List.extract]
theorem OR(s:ByteArray)(n:Nat)(h:n<s.size):(s.extract 0 (1+n)).extract 1 (min (1+n) s.size)=s.extract 1 (1+n):=by
 apply ByteArray.ext;apply Array.ext';rw[ext_list,ext_list,ext_list];rw[show min (1+n) s.size=1+n by omega];simp only[List.drop_zero,Nat.sub_zero];rw[List.drop_take,List.take_take,Nat.min_self]
set_option maxRecDepth 100000 in
theorem FG(b:Nat)(s:ByteArray)(e k:Int)(w:World)(h:Rd w b s e)(hs:s.size<=maxLen) :
  Calls prog 193 #[.pointer (some ⟨b,0,none⟩),.int .i64 k] w fun y w'=>y=.returned (.string (strR s e k))/\Rd w' b (strS s e k) (strE s e k)/\w.grownBy w' (some b):=by
 have h0:=h.c0;have h1:=h.c1;by_cases he:e=0
 ·subst he;by_cases hz:s.size=0
  ·have e0:strOk s 0 k=false:=by simp[strOk,hz]
   have e1:strR s 0 k=ByteArray.empty:=by simp[strR,e0]
   have e2:strS s 0 k=s:=by simp[strS,e0]
   have e3:strE s 0 k=2:=by simp[strE,hz]
   rw[e1,e2,e3];have hz':((s.size:Int)==0)=true:=by simp[hz]
   clear e0 e1 e2 e3 hz;go_enter func193,ntmps193;go_wp2_with (first|(go_at_call 163;refine(AS _ _ _ _ h).mono ?_;rintro x w' ⟨rfl,rfl⟩)|(go_at_call 164;refine(DH _ _ _ _ _ h).mono ?_;rintro x w' ⟨rfl,rfl⟩));go_ret;exact⟨rfl,(h.set1 2).1,(h.set1 2).2⟩
  ·have hp:0<s.size:=by omega
   have hz':((s.size:Int)==0)=false:=by simp[hz]
   have hN:=Lt s hp;have hN8:strN s<256:=(s.data.toList.headD 0).toNat_lt;by_cases hm:k<(strN s:Int)
   ·have e0:strOk s 0 k=false:=by simp[strOk];omega
    have e1:strR s 0 k=ByteArray.empty:=by simp[strR,e0]
    have e2:strS s 0 k=s:=by simp[strS,e0]
    have e3:strE s 0 k=3:=by simp[strE,hz,hm]
    rw[e1,e2,e3];clear e0 e1 e2 e3 hz;go_enter func193,ntmps193;go_wp2_with (first|(go_at_call 163;refine(AS _ _ _ _ h).mono ?_;rintro x w' ⟨rfl,rfl⟩)|(go_at_call 164;refine(DH _ _ _ _ _ h).mono ?_;rintro x w' ⟨rfl,rfl⟩));go_ret;exact⟨rfl,(h.set1 3).1,(h.set1 3).2⟩
   ·by_cases hl:s.size<=strN s
    ·have e0:strOk s 0 k=false:=by simp[strOk];omega
     have e1:strR s 0 k=ByteArray.empty:=by simp[strR,e0]
     have e2:strS s 0 k=s:=by simp[strS,e0]
     have e3:strE s 0 k=2:=by simp[strE,hz,hm,hl]
     rw[e1,e2,e3];clear e0 e1 e2 e3 hz;go_enter func193,ntmps193;go_wp2_with (first|(go_at_call 163;refine(AS _ _ _ _ h).mono ?_;rintro x w' ⟨rfl,rfl⟩)|(go_at_call 164;refine(DH _ _ _ _ _ h).mono ?_;rintro x w' ⟨rfl,rfl⟩));go_ret;exact⟨rfl,(h.set1 2).1,(h.set1 2).2⟩
    ·have e0:strOk s 0 k=true:=by simp[strOk];omega
     have e1:strR s 0 k=s.extract 1 (1+strN s):=by simp[strR,e0]
     have e2:strS s 0 k=s.extract (1+strN s) s.size:=by simp[strS,e0]
     have e3:strE s 0 k=0:=by simp[strE,hz,hm,hl]
     rw[e1,e2,e3];clear e0 e1 e2 e3 hz;go_enter func193,ntmps193;go_wp2_with (first|(go_at_call 163;refine(AS _ _ _ _ h).mono ?_;rintro x w' ⟨rfl,rfl⟩)|(go_at_call 165;refine(Oy _ _ _ _ _ h (by omega) hs).mono ?_;rintro x w' ⟨rfl,rfl⟩));go_ret;exact⟨congrArg (fun x=>Ending.returned (Value.string x)) (OR s (strN s) (by omega)),(h.set0 _).1,(h.set0 _).2⟩
 ·have e0:strOk s e k=false:=by simp[strOk,he]
  have e1:strR s e k=ByteArray.empty:=by simp[strR,e0]
  have e2:strS s e k=s:=by simp[strS,e0]
  have e3:strE s e k=e:=by simp[strE,he]
  rw[e1,e2,e3];have he':(e != 0)=true:=by simp[he]
  clear e0 e1 e2 e3 he;go_enter func193,ntmps193;go_wp2_with (go_at_call 163;refine(AS _ _ _ _ h).mono ?_;rintro x w' ⟨rfl,rfl⟩);go_ret;exact⟨rfl,h,World.grownBy.refl _ _⟩
def strB(l:List UInt8):List UInt8:=UInt8.ofNat (min l.length 255)::l.take 255
theorem CV(l:List UInt8):(strB l).length<=256:=by simp[strB];omega
set_option maxRecDepth 100000 in
theorem Ia(v:Value)(l:List UInt8)(s:ByteArray)(base:Nat)(w:World)(hs:s.size<=maxLen)(hown:Own 5 w base v l)(hb:base<=w.heap.size)(hl:l.length<=140737488355072) :
  Calls prog 87 #[v,.string s] w fun e w'=>∃v',e=.returned v'/\Own 5 w' base v' (l++strB s.data.toList)/\Fr w v w' v':=by
 obtain⟨i0,hi,hz0,hz1,hz2⟩:=info_parts Tryz.info5;unfold maxLen at hs;have Hl:Hid (l.length<=140737488355072):=hl;clear hl;by_cases hc:(s.size:Int)<=255
 ·have Hs:Hid (strB s.data.toList=UInt8.ofNat s.size::s.data.toList):=by
   have e:s.data.toList.length=s.size:=by rw[Array.length_toList];rfl
   unfold strB;rw[e,show min s.size 255=s.size by omega,List.take_of_length_le (by omega)];rfl
  have hv:(s.size:Int)=((UInt8.ofNat s.size).toNat:Int):=by rw[UInt8.toNat_ofNat'];omega
  have Hv:Hid ((s.size:Int)=((UInt8.ofNat s.size).toNat:Int)):=hv;have Hb1:Hid (l.length+1<=140737488355328):=by have:=Hl.out;show _<=_;omega
  have Hb2:Hid ((l++[UInt8.ofNat s.size]).length+s.data.toList.length<=140737488355328):=by
   have:=Hl.out;have e:s.data.toList.length=s.size:=by rw[Array.length_toList];rfl
   show _<=_;rw[List.length_append,List.length_singleton,e];omega
  clear hv;go_enter func87,ntmps87
  go_wp2_with (first|(at_builtin;refine AJ _ rfl (.tmp 9) (.tmp 12) 112 112 rfl base 5 i0 underlying112 hi hz0 hz1 hz2 v _ rfl (hown.alloc _) _ [UInt8.ofNat s.size] rfl (H9 w 112 5 underlying112 _ _ Hv.out) Hb1.out (by simp;omega) ?_;intro v1 w1 ho1 hg1 hv1)|(at_builtin;refine AJ _ rfl (.tmp 14) (.tmp 17) 112 9 rfl base 5 i0 underlying112 hi hz0 hz1 hz2 v1 _ rfl ho1 _ _ rfl (Lr _ 9 underlying9 s) Hb2.out (Nat.le_trans hb (Nat.le_trans (by simp) hg1.size)) ?_;intro v2 w2 ho2 hg2 hv2))
  go_ret;refine⟨_,rfl,?_,?_⟩
  ·rw[Hs.out];simpa using ho2
  ·exact(((Fr.refl w v).alloc _).step hg1 (by simpa using hv1)).step hg2 hv2
 ·have hc:255<(s.size:Int):=by omega
  have Hs:Hid (strB s.data.toList=UInt8.ofNat 255::(s.extract 0 255).data.toList):=by
   have e:s.data.toList.length=s.size:=by rw[Array.length_toList];rfl
   show _=_;unfold strB;rw[e,show min s.size 255=255 by omega,ext_list];simp
  have Hb1:Hid (l.length+1<=140737488355328):=by have:=Hl.out;show _<=_;omega
  have Hb2:Hid ((l++[UInt8.ofNat 255]).length+(s.extract 0 255).data.toList.length<=140737488355328):=by
   have:=Hl.out;have e:(s.extract 0 255).data.toList.length<=255:=by rw[ext_list];simp;omega
   show _<=_;rw[List.length_append,List.length_singleton];omega
  go_enter func87,ntmps87
  go_wp2_with (first|(at_builtin;refine AJ _ rfl (.tmp 9) (.tmp 12) 112 112 rfl base 5 i0 underlying112 hi hz0 hz1 hz2 v _ rfl (hown.alloc _) _ [UInt8.ofNat 255] rfl (H9 w 112 5 underlying112 _ _ rfl) Hb1.out (by simp;omega) ?_;intro v1 w1 ho1 hg1 hv1)|(at_builtin;refine AJ _ rfl (.tmp 14) (.tmp 17) 112 9 rfl base 5 i0 underlying112 hi hz0 hz1 hz2 v1 _ rfl ho1 _ _ rfl (Lr _ 9 underlying9 (s.extract 0 255)) Hb2.out (Nat.le_trans hb (Nat.le_trans (by simp) hg1.size)) ?_;intro v2 w2 ho2 hg2 hv2))
  go_ret;refine⟨_,rfl,?_,?_⟩
  ·rw[Hs.out];simpa using ho2
  ·exact(((Fr.refl w v).alloc _).step hg1 (by simpa using hv1)).step hg2 hv2
end Go.Proofs.YtgcgacjhkhjhmaaGreatDoor
namespace Go.Proofs.YtgcgacjhkhjhmaaGreatDoor
open Go
theorem NV(x m:Nat):x%2 ^ (8*(m+1))=x / 2 ^ (8*m)%256*2 ^ (8*m)+x%2 ^ (8*m):=by
 rw[show 8*(m+1)=8*m+8 by omega,Nat.pow_add,Nat.mod_mul,Nat.add_comm,Nat.mul_comm]
theorem ML(x m:Nat):(UInt8.ofNat (x / 2 ^ (8*m))).toNat=x / 2 ^ (8*m)%256:=UInt8.toNat_ofNat'
theorem OU(x m:Nat):∀a:Nat,(be x m).foldl (fun a b=>a*256+b.toNat) a=a*2 ^ (8*m)+x%2 ^ (8*m):=by
 induction m with
 | zero=>intro a;simp[be,Nat.mod_one]
 | succ m ih =>
  intro a;simp only[be,List.foldl_cons];rw[ih,ML,NV x m,Nat.add_mul,Nat.mul_assoc a,show 8*(m+1)=8+8*m by omega,Nat.pow_add,show (2:Nat) ^ 8=256 from rfl];omega
theorem P3(x m:Nat):val (be x m)=x%2 ^ (8*m):=by
 unfold val;rw[OU];simp
end Go.Proofs.YtgcgacjhkhjhmaaGreatDoor
namespace Go.Proofs.YtgcgacjhkhjhmaaGreatDoor
open Go Go.RowKit
theorem Ba{P:Program}(w:World)(base:Nat)(t tx ty e:TypeId)(i:TypeInfo)(z:Value)(sz by_:Nat)(ht:P.underlying t=some (.slice e))(hi:P.info? e=some i)(hz:i.zero=some z)(hzc:z.cells.size=sz)
  (hsize:i.size=sz) (hby:i.bytes=by_) (v:Value) (n:Nat) (cs:List Value) (hown:w.ownsRow base e sz v n cs) (x:Value) (m:Nat) (ds:List Value) (hs:Src P sz tx x m ds w) (hm:0<n+m)
  (hb:(n+m)*by_<=140737488355328) (hml:n+m<=maxLen) (hbase:base<=w.heap.size) :
  ∃v' w',(Builtin.append_ #[t,tx] ty #[v,x]).run P w=.ok v' w'/\w'.ownsRow base e sz v' (n+m) (cs++ds)/\w.grownBy w' v.ownBlock/\(v'.ownBlock=v.ownBlock\/v'.ownBlock=some w.heap.size):=by
 have hs':Src P i.size tx x m ds w:=by rw[hsize];exact hs
 have hcl:=hown.1;have hdl:=hs.newsLen;have hlen:(cs++ds).length=(n+m)*sz:=by rw[List.length_append,hcl,hdl,Nat.add_mul]
 have hml':n+m<=9223372036854775807:=hml;have grown:∀(old:Nat),old<n+m->∀(row:Option Nat),
   (w.drew.alloc (.cells ((cs++ds).toArray++Builtin.zeroCells z.cells (grownCap w (n+m) old e - (n+m))) e)).ownsRow base e sz
    (.slice (some ⟨w.heap.size,0,none⟩) (n+m) (grownCap w (n+m) old e)) (n+m) (cs++ds) /\
   w.grownBy (w.drew.alloc (.cells ((cs++ds).toArray++Builtin.zeroCells z.cells (grownCap w (n+m) old e - (n+m))) e)) row:=by
  intro old ho row;have hge:=grownCap_ge w (n+m) old e;have hcm:grownCap w (n+m) old e<=maxLen:=grownCap_le_maxLen w _ old e hml;refine⟨⟨hlen,.inr ⟨w.heap.size,grownCap w (n+m) old e,_,rfl,hbase,heap_alloc_new w.drew _,hge,hcm,?_,?_⟩⟩,⟨rfl,rfl,rfl,by simp,fun k' hk _=>heap_alloc_old w.drew _ hk⟩⟩
  ·simp only[Array.size_append,List.size_toArray,size_zeroCells,hzc,hlen];rw[<-Nat.add_mul];congr 1;omega
  ·simp only[Array.toList_append];rw[<-hlen];exact List.take_left
 rcases hown.2 with ⟨rfl,h0⟩|⟨g,cap,cur,rfl,hbg,hg,hnc,hcm,hcs,htake⟩
 ·subst h0;have hl:cs=[]:=List.eq_nil_of_length_eq_zero (by rw[hcl,Nat.zero_mul]);subst hl;have hr:=run_append_grow_src (P:=P) w t tx ty e i z ht hi hz none 0 0 [] (run_firstCells_none w.drew i.size 0 0 0) x m ds hs' (by omega) (by omega)
   (growslice_fits (by omega) (by rw[hby];exact hb))
  have hgr:=grown 0 (by omega) (Value.ownBlock (.slice none 0 0));exact⟨_,_,hr,hgr.1,hgr.2,.inr rfl⟩
 ·by_cases hroom:n+m<=cap
  ·have hf:=hs'.cells;have hle:(n+m)*sz<=cap*sz:=Nat.mul_le_mul_right _ hroom;have hfit:n*i.size+ds.length<=cur.size:=by rw[hsize,hcs,hdl,<-Nat.add_mul];exact hle
   have hst:=run_storeCells_at P g (n*i.size) e ds 0 cur w hg (by simpa using hfit) hs.one;simp only[Nat.add_zero]at hst;have hr:(Builtin.append_ #[t,tx] ty #[.slice (some ⟨g,0,none⟩) n cap,x]).run P w =
     .ok (.slice (some ⟨g,0,none⟩) (n+m) cap) (w.setRow g (cur.toList.take (n*i.size)++ds++cur.toList.drop (n*i.size+ds.length)).toArray):=by
    rcases hs.kind with ⟨e',hk'⟩|hk'<;>simp[Builtin.append_,run_underlying ht,run_underlying hk',sizeOf,typeInfo,hi,hs.len,hroom,hf,Addr.add_lit,hst]
   refine⟨_,_,hr,⟨hlen,.inr ⟨g,cap,_,rfl,hbg,setRow_heap w g cur _ e _ hg,hroom,hcm,?_,?_⟩⟩,⟨rfl,rfl,rfl,by simp,fun k' _ hk=>setRow_other w g k' _ (fun e=>hk (by simp[Value.ownBlock,e]))⟩,.inl rfl⟩
   ·simp only[List.size_toArray,List.length_append,List.length_take,List.length_drop,Array.length_toList];omega
   ·rw[hsize,htake,<-hlen];exact List.take_left
  ·have holds:∀j u,cs[j]?=some u->w.cell? ((⟨g,0,none⟩:Addr).add j)=some u:=World.ownsRow.cells hown (g:=g) rfl;have hr:=run_append_grow_src (P:=P) w t tx ty e i z ht hi hz (some ⟨g,0,none⟩) n cap cs (run_firstCells_some w.drew i.size n ⟨g,0,none⟩ n cap cs (by rw[hsize];exact hcl) (by simpa using holds)) x m ds hs' (by omega) (by omega)
    (growslice_fits (by omega) (by rw[hby];exact hb))
   have hgr:=grown cap (by omega) (Value.ownBlock (.slice (some ⟨g,0,none⟩) n cap));exact⟨_,_,hr,hgr.1,hgr.2,.inr rfl⟩
end Go.Proofs.YtgcgacjhkhjhmaaGreatDoor
namespace Go.Proofs.YtgcgacjhkhjhmaaGreatDoor
open Go.RowKit
def mkB(l:List UInt8):ByteArray:=⟨l.toArray⟩
theorem Ci(l:List UInt8):(mkB l).data.toList=l:=rfl
theorem AB(l:List UInt8):(mkB l).size=l.length:=by show l.toArray.size=_;simp
theorem DN(l:List UInt8)(a b:Nat):(mkB l).extract a b=mkB ((l.drop a).take (b - a)):=by
 apply ByteArray.ext;apply Array.ext';rw[ext_list,Ci,Ci]
theorem DO(s:ByteArray):mkB s.data.toList=s:=by cases s;rfl
theorem Ln(a r:List UInt8):rawR (mkB (a++r)) 0 (a.length:Int)=mkB a/\rawS (mkB (a++r)) 0 (a.length:Int)=mkB r/\rawE (mkB (a++r)) 0 (a.length:Int)=0:=by
 have hz:=AB (a++r);rw[List.length_append]at hz;refine⟨?_,?_,?_⟩
 ·unfold rawR;rw[if_neg (by omega),Int.toNat_natCast,DN];simp
 ·unfold rawS;rw[if_neg (by omega),Int.toNat_natCast,DN];congr 1;rw[hz];simp
 ·unfold rawE;rw[if_neg (by omega),if_neg (by omega)]
theorem Dt(b:Nat)(c:UInt8)(r:List UInt8)(w:World)(h:Rd w b (mkB (c::r)) 0)(hs:(c::r).length<=maxLen) :
  Calls prog 105 #[.pointer (some ⟨b,0,none⟩),.int .i64 1] w fun y w'=>y=.returned (.int .u64 (c.toNat:Int))/\Rd w' b (mkB r) 0/\w.grownBy w' (some b):=by
 refine(FF b _ 0 1 w h (by rw[AB];exact hs)).mono ?_;rintro y w' ⟨rfl,hr,hg⟩;have h1:=Ln [c] r;rw[show ((wid 1:Nat):Int)=(([c]:List UInt8).length:Int) from rfl]at hr |-;rw[show c::r=[c]++r from rfl]at hr |-;rw[h1.1,Ci];rw[h1.2.1,h1.2.2]at hr;exact⟨by simp[val],hr,hg⟩
end Go.Proofs.YtgcgacjhkhjhmaaGreatDoor
namespace Go.Proofs.YtgcgacjhkhjhmaaGreatDoor
def AZ(s:ByteArray)(i:Nat):UInt8:=s.data.toList.getD i 0
def bitOf(s:ByteArray)(n:Nat):Bool:=(AZ s (n / 8)).toNat / 2 ^ (n%8)%2==1
def turnS(s:ByteArray)(n:Nat):ByteArray:=⟨(s.data.toList.set (n / 8) (AZ s (n / 8) ^^^ UInt8.ofNat (2 ^ (n%8)))).toArray⟩
theorem BU(s:ByteArray)(n:Nat):(turnS s n).size=s.size:=by
 show (s.data.toList.set _ _).toArray.size=s.data.size;simp
theorem PC(a:UInt8)(i j:Nat)(hi:i<8)(hj:j<8):((a ^^^ UInt8.ofNat (2 ^ i)).toNat / 2 ^ j%2==1)=if i=j then !(a.toNat / 2 ^ j%2==1) else (a.toNat / 2 ^ j%2==1):=by
 have e:∀x:Nat,(x / 2 ^ j%2==1)=x.testBit j:=fun x=>by rw[Nat.testBit_eq_decide_div_mod_eq];cases h:(x / 2 ^ j%2==1)<;>simp_all
 have hp:(UInt8.ofNat (2 ^ i)).toNat=2 ^ i:=by
  have:2 ^ i<256:=by
   have:=Nat.pow_lt_pow_right (a:=2) (by omega) hi;simpa using this
  simp[Nat.mod_eq_of_lt this]
 rw[e,e,UInt8.toNat_xor,Nat.testBit_xor,hp,Nat.testBit_two_pow];by_cases h:i=j
 ·simp[h]
 ·simp[h]
theorem E1(s:ByteArray)(n m:Nat)(hn:n / 8<s.size):bitOf (turnS s n) m=if n=m then !bitOf s m else bitOf s m:=by
 unfold bitOf AZ turnS;have hl:n / 8<s.data.toList.length:=by simpa using hn
 simp only[List.getD_eq_getElem?_getD,List.getElem?_set];by_cases h8:n / 8=m / 8
 ·rw[if_pos h8,if_pos (by omega)];rw[Option.getD_some];have e:s.data.toList[m / 8]?.getD 0=AZ s (m / 8):=by unfold AZ;rw[List.getD_eq_getElem?_getD]
  rw[e,PC (AZ s (n / 8)) (n%8) (m%8) (Nat.mod_lt _ (by omega)) (Nat.mod_lt _ (by omega)),h8];by_cases h:n=m
  ·subst h;simp
  ·rw[if_neg h,if_neg (by omega)]
 ·rw[if_neg h8,if_neg (by intro h;exact h8 (by rw[h]))]
def pg0(l:List ByteArray):ByteArray:=l.getD 0 ⟨#[]⟩
def isU(l:List ByteArray)(n:Nat):Bool:=n==0||bitOf (pg0 l) n
def AW(l:List ByteArray)(z:Int):Bool:=decide (0<z/\z<(l.length:Int))&&isU l z.toNat
def turnL(l:List ByteArray)(n:Nat):List ByteArray:=l.set 0 (turnS (pg0 l) n)
theorem Bv(l:List ByteArray)(n:Nat):(turnL l n).length=l.length:=by simp[turnL]
theorem Ff{l:List ByteArray}{n m:Nat}(h0:0<l.length)(hs:(pg0 l).size=256)(hn:n<2048)(hm:0<m):isU (turnL l n) m=if n=m then !isU l m else isU l m:=by
 have e:pg0 (turnL l n)=turnS (pg0 l) n:=by
  unfold turnL;show (l.set 0 _).getD 0 _=_;rw[List.getD_eq_getElem?_getD,List.getElem?_set];simp[h0]
 unfold isU;rw[e,E1 _ _ _ (by omega)];have hm':(m==0)=false:=by simpa using (by omega:m≠0)
 rw[hm'];simp
def lowest(l:List ByteArray):Nat->Nat->Option Nat
 | 0,_=>none
 | k+1,n=>if isU l n then lowest l k (n+1) else some n
structure Sw where
 base:List ByteArray
 now:List ByteArray
 notes:List (List ByteArray)
 over:Bool
def Sw.read(s:Sw)(z:Int):ByteArray × Int:=if s.over then (⟨#[]⟩,13) else if AW s.now z then (s.now.getD z.toNat ⟨#[]⟩,0) else (⟨#[]⟩,7)
def Sw.writeE(s:Sw)(z:Int)(x:ByteArray):Int:=if s.over then 13 else if AW s.now z then (if x.size=256 then 0 else 1) else 7
def Sw.write(s:Sw)(z:Int)(x:ByteArray):Sw:=if s.writeE z x=0 then { s with now:=s.now.set z.toNat x } else s
def Sw.free(s:Sw):Option Nat:=lowest s.now (s.now.length - 1) 1
def Sw.takeE(s:Sw):Int × Int:=if s.over then (0,13) else match s.free with
 | some n=>((n:Int),0)
 | none=>(0,8)
def Sw.take(s:Sw)(Z:ByteArray):Sw:=if s.over then s else match s.free with
 | some n=>{ s with now:=(turnL s.now n).set n Z }
 | none=>s
def Sw.dropE(s:Sw)(z:Int):Int:=if s.over then 13 else if AW s.now z then 0 else 7
def Sw.drop(s:Sw)(z:Int):Sw:=if s.dropE z=0 then { s with now:=turnL s.now z.toNat } else s
def Sw.usedN(s:Sw):Nat:=if s.over then 0 else ((List.range s.now.length).filter (isU s.now)).length
def chgs(b l:List ByteArray):List Nat:=(List.range l.length).filter (fun i=>isU l i&&decide (l.getD i ⟨#[]⟩≠b.getD i ⟨#[]⟩))
def Sw.changed(s:Sw):List Nat:=if s.over then [] else chgs s.base s.now
theorem Ey(l:List ByteArray):∀k n m,n<=m->m<n+k->(∀i,n<=i->i<m->isU l i=true)->isU l m=false->lowest l k n=some m:=by
 intro k;induction k with
 | zero=>intro n m h1 h2;omega
 | succ k ih =>
  intro n m h1 h2 h3 h4;unfold lowest;by_cases h:n=m
  ·subst h;rw[h4];rfl
  ·rw[h3 n (Nat.le_refl _) (by omega),if_pos rfl];exact ih (n+1) m (by omega) (by omega) (fun i hi hi'=>h3 i (by omega) hi') h4
theorem IK(l:List ByteArray):∀k n,(∀i,n<=i->i<n+k->isU l i=true)->lowest l k n=none:=by
 intro k;induction k with
 | zero=>intro n _;rfl
 | succ k ih =>
  intro n h;unfold lowest;rw[h n (Nat.le_refl _) (by omega),if_pos rfl];exact ih (n+1) (fun i hi hi'=>h i (by omega) (by omega))
theorem Pi(l:List ByteArray)(n:Nat)(x:ByteArray)(hn:0<n):pg0 (l.set n x)=pg0 l:=by
 unfold pg0;rw[List.getD_eq_getElem?_getD,List.getD_eq_getElem?_getD,List.getElem?_set,if_neg (by omega)]
theorem EQ(l:List ByteArray)(n m:Nat)(x:ByteArray)(hn:0<n):isU (l.set n x) m=isU l m:=by
 unfold isU;rw[Pi l n x hn]
theorem Br{l:List ByteArray}(h0:0<l.length)(hs:∀x∈l,x.size=256):(pg0 l).size=256:=by
 unfold pg0;rw[List.getD_eq_getElem?_getD,List.getElem?_eq_getElem h0];exact hs _ (List.getElem_mem h0)
theorem BJ{l:List ByteArray}{n:Nat}{x:ByteArray}(hs:∀y∈l,y.size=256)(hx:x.size=256):∀y∈l.set n x,y.size=256:=fun y hy=>by
 rcases List.mem_or_eq_of_mem_set hy with h|h
 ·exact hs y h
 ·rw[h];exact hx
structure Tk (s:Sw) (n:Nat) (U:Nat->Bool):Prop where
 ov:s.over=false
 len:s.now.length=n
 l0:0<n
 l1:n<=160
 sz:∀x∈s.now,x.size=256
 us:∀i,0<i->i<n->isU s.now i=U i
theorem Tk.turn{s:Sw}{n:Nat}{U:Nat->Bool}(h:Tk s n U)(m:Nat)(hm:0<m)(hmn:m<n):Tk { s with now:=turnL s.now m } n (fun i=>if m=i then !U i else U i):=by
 have h0:0<s.now.length:=by rw[h.len];exact h.l0
 refine⟨h.ov,by rw[<-h.len];exact Bv _ _,h.l0,h.l1,BJ h.sz (by rw[BU];exact Br h0 h.sz),fun i hi hin=>?_⟩;have:=h.l1;show isU (turnL s.now m) i=_;rw[Ff h0 (Br h0 h.sz) (by omega) hi,h.us i hi hin]
theorem Tk.put{s:Sw}{n:Nat}{U:Nat->Bool}(h:Tk s n U)(m:Nat)(x:ByteArray)(hm:0<m)(hx:x.size=256):Tk { s with now:=s.now.set m x } n U :=
 ⟨h.ov,by rw[<-h.len];exact List.length_set ..,h.l0,h.l1,BJ h.sz hx,fun i hi hin=>by
  show isU (s.now.set m x) i=_
  rw[EQ _ _ _ _ hm]
  exact h.us i hi hin⟩
theorem Tk.congr{s:Sw}{n:Nat}{U V:Nat->Bool}(h:Tk s n U)(hv:∀i,0<i->i<n->U i=V i):Tk s n V:=⟨h.ov,h.len,h.l0,h.l1,h.sz,fun i hi hin=>by rw[h.us i hi hin,hv i hi hin]⟩
theorem Tk.take{s:Sw}{n:Nat}{U:Nat->Bool}(h:Tk s n U)(m:Nat)(Z:ByteArray)(hm:0<m)(hmn:m<n)(hU:U m=false)(hl:∀i,0<i->i<m->U i=true)(hZ:Z.size=256) :
  s.takeE=((m:Int),0)/\Tk (s.take Z) n (fun i=>i==m||U i):=by
 have hf:s.free=some m:=by
  unfold Sw.free;rw[h.len];exact Ey _ _ _ _ hm (by omega) (fun i hi him=>by rw[h.us i hi (by omega)];exact hl i hi him) (by rw[h.us m hm hmn];exact hU)
 refine⟨by unfold Sw.takeE;rw[h.ov,hf];rfl,?_⟩;have e:s.take Z={ s with now:=(turnL s.now m).set m Z }:=by unfold Sw.take;rw[h.ov,hf];rfl
 rw[e];refine((h.turn m hm hmn).put m Z hm hZ).congr (fun i hi hin=>?_);by_cases hi':m=i
 ·subst hi';simp[hU]
 ·have:(i==m)=false:=by simpa using fun e=>hi' e.symm
  simp[hi',this]
theorem Tk.drop{s:Sw}{n:Nat}{U:Nat->Bool}(h:Tk s n U)(z:Int)(hz:0<z)(hzn:z<n)(hU:U z.toNat=true):s.dropE z=0/\Tk (s.drop z) n (fun i=>!(i==z.toNat)&&U i):=by
 have ht:AW s.now z=true:=by
  unfold AW;rw[h.len,h.us z.toNat (by omega) (by omega),hU];simp[hz,hzn]
 have hE:s.dropE z=0:=by unfold Sw.dropE;rw[h.ov,ht];rfl
 refine⟨hE,?_⟩;have e:s.drop z={ s with now:=turnL s.now z.toNat }:=by unfold Sw.drop;rw[if_pos hE]
 rw[e];refine(h.turn z.toNat (by omega) (by omega)).congr (fun i hi hin=>?_);by_cases hi':z.toNat=i
 ·subst hi';simp[hU]
 ·have:(i==z.toNat)=false:=by simpa using fun e=>hi' e.symm
  simp[hi',this]
structure Sw.From (s t:Sw):Prop where
 base:t.base=s.base
 over:t.over=s.over
 notes:∃m,t.notes=s.notes++m
theorem Sw.From.refl(s:Sw):s.From s:=⟨rfl,rfl,[],by simp⟩
theorem Sw.From.trans{s t u:Sw}(h:s.From t)(h':t.From u):s.From u:=by
 obtain⟨m,hm⟩:=h.notes;obtain⟨m',hm'⟩:=h'.notes;exact⟨h'.base.trans h.base,h'.over.trans h.over,m++m',by rw[hm',hm,List.append_assoc]⟩
theorem Sw.From.now(s:Sw)(l:List ByteArray):s.From { s with now:=l }:=⟨rfl,rfl,[],by simp⟩
theorem JR(s:Sw)(z:Int)(x:ByteArray):s.From (s.write z x):=by unfold Sw.write;split;exact .now _ _;exact .refl _
theorem LT(s:Sw)(Z:ByteArray):s.From (s.take Z):=by
 unfold Sw.take;split
 ·exact .refl _
 ·split
  ·exact .now _ _
  ·exact .refl _
theorem LS(s:Sw)(z:Int):s.From (s.drop z):=by unfold Sw.drop;split;exact .now _ _;exact .refl _
end Go.Proofs.YtgcgacjhkhjhmaaGreatDoor
namespace Go.Proofs.YtgcgacjhkhjhmaaGreatDoor
open Go.RowKit
theorem ID(w:World)(n:Nat)(row:Option Nat):w.grownBy (w.drewN n) row:=⟨rfl,rfl,rfl,Nat.le_refl _,fun _ _ _=>rfl⟩
end Go.Proofs.YtgcgacjhkhjhmaaGreatDoor
