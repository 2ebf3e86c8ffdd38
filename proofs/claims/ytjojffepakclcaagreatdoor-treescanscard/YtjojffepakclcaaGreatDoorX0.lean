/- Part of the proof: contracts over the turned program. -/
import Derived.BigQuiet
import Derived.Deep.AppendSrc
import Derived.Deep.CutRange
import Derived.Deep.RegionHeldLaw
import Derived.Deep.WholeRow
import Derived.Lib.BufferWrite
import Derived.ProofKit
import Derived.Test.YtjojffepakclcaaGreatDoorChecked
import Derived.Test.YtjojffepakclcaaGreatDoorProg
import Derived.WalkLawsBesides
import Derived.WalkSpells
set_option linter.unusedVariables false
set_option maxHeartbeats 4000000
open Go.Proofs.Tryz
namespace Go.Proofs.YtjojffepakclcaaGreatDoor
theorem PT{A:Type _}(l:List A)(i:Nat)(a:A):l.toArray.setIfInBounds i a=(l.set i a).toArray:=List.setIfInBounds_toArray ..
theorem PU{A:Type _}(x:A)(l:List A)(a:A):(x::l).set 0 a=a::l:=rfl
theorem PV{A:Type _}(x:A)(l:List A)(n:Nat)(a:A):(x::l).set (n+1) a=x::l.set n a:=rfl
theorem PW{a b c:Nat}:a<b->b<=c->a<c:=Nat.lt_of_lt_of_le
end Go.Proofs.YtjojffepakclcaaGreatDoor
namespace Go.Proofs.YtjojffepakclcaaGreatDoor
open Go Go.RowKit
def bcs(l:List UInt8):List Value:=l.map fun b=>Value.int .u8 (b.toNat:Int)
theorem Bb(l:List UInt8):(bcs l).length=l.length:=by simp[bcs]
theorem CA(l k:List UInt8):bcs (l++k)=bcs l++bcs k:=by simp[bcs]
theorem E4(l:List UInt8):∀u∈bcs l,u.oneCell'=true:=by
 intro u hu;obtain⟨_,_,rfl⟩:=List.mem_map.1 hu;rfl
def Own(e:TypeId)(w:World)(base:Nat)(v:Value)(l:List UInt8):Prop:=w.ownsRow base e 1 v l.length (bcs l)
theorem Own.nil(e:TypeId)(w:World)(base:Nat):Own e w base (.slice none 0 0) []:=World.ownsRow_nil w base e 1
theorem Own.lt{e:TypeId}{w:World}{base:Nat}{v:Value}{l:List UInt8}(h:Own e w base v l):∀k,v.ownBlock=some k->base<=k/\k<w.heap.size:=World.ownsRow.lt h
theorem Own.alloc{e:TypeId}{w:World}{base:Nat}{v:Value}{l:List UInt8}(h:Own e w base v l)(o:Obj):Own e (w.alloc o) base v l:=World.ownsRow.alloc h o
theorem Own.shape{e:TypeId}{w:World}{base:Nat}{v:Value}{l:List UInt8}(h:Own e w base v l):(v=.slice none 0 0/\l=[])\/∃g cap,v=.slice (some ⟨g,0,none⟩) l.length cap/\base<=g/\g<w.heap.size/\∀j (hj:j<l.length),w.cell? ⟨g,j,none⟩=some (.int .u8 (l[j].toNat:Int)):=by
 have h':=h;rcases h.2 with ⟨rfl,h0⟩|⟨g,cap,cur,rfl,hb,hg,_⟩
 ·exact .inl ⟨rfl,List.eq_nil_of_length_eq_zero h0⟩
 ·refine .inr ⟨g,cap,rfl,hb,(Array.getElem?_eq_some_iff.1 hg).1,fun j hj=>?_⟩;have hc:=World.ownsRow.cellAt (g:=g) (cap:=cap) h' j (by omega);rw[hc];simp[bcs,hj]
theorem C7{P:Program}(w:World)(base:Nat)(t tx ty e:TypeId)(i:TypeInfo)(ht:P.underlying t=some (.slice e))(hi:P.info? e=some i)(hz:i.zero=some (.int .u8 0))
  (hsize:i.size=1) (hby:i.bytes=1) (v:Value) (l:List UInt8) (hown:Own e w base v l) (x:Value) (k:List UInt8) (hs:Src P 1 tx x k.length (bcs k) w)
  (hb:l.length+k.length<=140737488355328) (hbase:base<=w.heap.size) :
  ∃v' w',(Builtin.append_ #[t,tx] ty #[v,x]).run P w=.ok v' w'/\Own e w' base v' (l++k)/\w.grownBy w' v.ownBlock/\(v'.ownBlock=v.ownBlock\/v'.ownBlock=some w.heap.size):=by
 have hs':Src P i.size tx x k.length (bcs k) w:=by rw[hsize];exact hs
 have hml:l.length+k.length<=maxLen:=by simp only[maxLen];omega
 have hlen:(bcs l++bcs k).length=l.length+k.length:=by simp[Bb]
 have grown:∀(old:Nat),old<l.length+k.length->∀(row:Option Nat),
   Own e (w.drew.alloc (.cells ((bcs l++bcs k).toArray++Builtin.zeroCells (Value.int .u8 0).cells (grownCap w (l.length+k.length) old e - (l.length+k.length))) e)) base
    (.slice (some ⟨w.heap.size,0,none⟩) (l.length+k.length) (grownCap w (l.length+k.length) old e)) (l++k) /\
   w.grownBy (w.drew.alloc (.cells ((bcs l++bcs k).toArray++Builtin.zeroCells (Value.int .u8 0).cells (grownCap w (l.length+k.length) old e - (l.length+k.length))) e)) row:=by
  intro old ho row;have hge:=grownCap_ge w (l.length+k.length) old e;have hcm:grownCap w (l.length+k.length) old e<=maxLen:=grownCap_le_maxLen w _ old e hml;have hz1:(Value.int .u8 0).cells.size=1:=rfl;refine⟨⟨by rw[CA,hlen,List.length_append,Nat.mul_one],.inr ⟨w.heap.size,grownCap w (l.length+k.length) old e,_,by rw[List.length_append],hbase,heap_alloc_new w.drew _,by rw[List.length_append];exact hge,hcm,?_,?_⟩⟩,⟨rfl,rfl,rfl,by simp,fun k' hk _=>heap_alloc_old w.drew _ hk⟩⟩
  ·simp only[Array.size_append,List.size_toArray,size_zeroCells,hz1,hlen];omega
  ·rw[List.length_append,Nat.mul_one,CA];simp only[Array.toList_append];rw[<-hlen];exact List.take_left
 rcases hown.2 with ⟨rfl,h0⟩|⟨g,cap,cur,rfl,hbg,hg,hnc,hcm,hcs,htake⟩
 ·have hl:l=[]:=List.eq_nil_of_length_eq_zero h0;subst hl;by_cases hk:k=[]
  ·subst hk;refine⟨.slice none 0 0,w,?_,Own.nil e w base,⟨rfl,rfl,rfl,Nat.le_refl _,fun _ _ _=>rfl⟩,.inl rfl⟩;have hc:=hs'.cells;have hn:=hs'.len;simp only[List.length_nil]at hc hn;rcases hs.kind with ⟨e',hk'⟩|hk'<;>simp[Builtin.append_,run_underlying ht,run_underlying hk',sizeOf,typeInfo,hi,hn,hc]
  ·have hkl:0<k.length:=List.length_pos_iff.2 hk;have hr:=run_append_grow_src (P:=P) w t tx ty e i (.int .u8 0) ht hi hz none 0 0 [] (run_firstCells_none w.drew i.size 0 0 0) x k.length (bcs k) hs' (by omega) (by simp only[List.length_nil]at hb;omega)
    (growslice_fits (by omega) (by rw[hby];simp only[List.length_nil]at hb;omega))
   have hgr:=grown 0 (by omega) (Value.ownBlock (.slice none 0 0));exact⟨_,_,hr,hgr.1,hgr.2,.inr rfl⟩
 ·by_cases hroom:l.length+k.length<=cap
  ·have hf:=hs'.cells;have hfit:l.length*i.size+(bcs k).length<=cur.size:=by rw[hsize,hcs,Bb];omega
   have hst:=run_storeCells_at P g (l.length*i.size) e (bcs k) 0 cur w hg (by simpa using hfit) hs.one;simp only[Nat.add_zero]at hst;have hr:(Builtin.append_ #[t,tx] ty #[.slice (some ⟨g,0,none⟩) l.length cap,x]).run P w =
     .ok (.slice (some ⟨g,0,none⟩) (l.length+k.length) cap) (w.setRow g (cur.toList.take (l.length*i.size)++bcs k++cur.toList.drop (l.length*i.size+(bcs k).length)).toArray):=by
    rcases hs.kind with ⟨e',hk'⟩|hk'<;>simp[Builtin.append_,run_underlying ht,run_underlying hk',sizeOf,typeInfo,hi,hs.len,hroom,hf,Addr.add_lit,hst]
   refine⟨_,_,hr,⟨by rw[CA,hlen,List.length_append,Nat.mul_one],.inr ⟨g,cap,_,by rw[List.length_append],hbg,setRow_heap w g cur _ e _ hg,by rw[List.length_append];exact hroom,hcm,?_,?_⟩⟩,⟨rfl,rfl,rfl,by simp,fun k' _ hk=>setRow_other w g k' _ (fun e=>hk (by simp[Value.ownBlock,e]))⟩,.inl rfl⟩
   ·simp only[List.size_toArray,List.length_append,List.length_take,List.length_drop,Array.length_toList,Bb,hsize];omega
   ·rw[hsize,htake,List.length_append,Nat.mul_one,CA,<-hlen];exact List.take_left
  ·have holds:∀j u,(bcs l)[j]?=some u->w.cell? ((⟨g,0,none⟩:Addr).add j)=some u:=World.ownsRow.cells hown (g:=g) rfl;have hr:=run_append_grow_src (P:=P) w t tx ty e i (.int .u8 0) ht hi hz (some ⟨g,0,none⟩) l.length cap (bcs l) (run_firstCells_some w.drew i.size l.length ⟨g,0,none⟩ l.length cap (bcs l) (by rw[hsize,Bb,Nat.mul_one]) (by simpa using holds)) x k.length (bcs k) hs' (by omega) (by omega)
    (growslice_fits (by omega) (by rw[hby];omega))
   have hgr:=grown cap (by omega) (Value.ownBlock (.slice (some ⟨g,0,none⟩) l.length cap));exact⟨_,_,hr,hgr.1,hgr.2,.inr rfl⟩
theorem ET{P:Program}(w:World){o:Oper}{a:Act}{K:Act->World->Prop}{Q:Exit->Act->World->Prop}(s x:Operand)(t tx:TypeId)
  (ho:o.op=.call { callee:=.builtin .append,args:=#[s,x],argTypes:=#[t,tx] }) (base:Nat) (e:TypeId) (i:TypeInfo) (ht:P.underlying t=some (.slice e)) (hi:P.info? e=some i) (hz:i.zero=some (.int .u8 0))
  (hsize:i.size=1) (hby:i.bytes=1) (v:Value) (l:List UInt8) (hs:a.eval s=v) (hown:Own e w base v l) (xv:Value) (k:List UInt8) (hx:a.eval x=xv) (hsrc:Src P 1 tx xv k.length (bcs k) w)
  (hb:l.length+k.length<=140737488355328) (hbase:base<=w.heap.size)
  (h:∀v' w',Own e w' base v' (l++k)->w.grownBy w' v.ownBlock->(v'.ownBlock=v.ownBlock\/v'.ownBlock=some w.heap.size)->K (a.put o.dst v') w'):o.wp P a w K Q:=by
 obtain⟨v',w',hr,h2,h3,h4⟩:=C7 (P:=P) w base t tx o.type e i ht hi hz hsize hby v l hown xv k hsrc hb hbase;unfold Oper.wp execOp;simp only[ho,resolve,invoke,builtin,Sem.run_bind,Sem.run_pure,Result.andThen_ok,List.map_toArray,List.map_cons,List.map_nil,hs,hx,hr];exact h v' w' h2 h3 h4
theorem AL{P:Program}(w:World){ops:Array Oper}{rest:List Oper}{o:Oper}{a:Act}{Q:Exit->Act->World->Prop}(hgd:o.guard=none)(s x:Operand)(t tx:TypeId)
  (ho:o.op=.call { callee:=.builtin .append,args:=#[s,x],argTypes:=#[t,tx] }) (base:Nat) (e:TypeId) (i:TypeInfo) (ht:P.underlying t=some (.slice e)) (hi:P.info? e=some i) (hz:i.zero=some (.int .u8 0))
  (hsize:i.size=1) (hby:i.bytes=1) (v:Value) (l:List UInt8) (hs:a.eval s=v) (hown:Own e w base v l) (xv:Value) (k:List UInt8) (hx:a.eval x=xv) (hsrc:Src P 1 tx xv k.length (bcs k) w)
  (hb:l.length+k.length<=140737488355328) (hbase:base<=w.heap.size)
  (h:∀v' w',Own e w' base v' (l++k)->w.grownBy w' v.ownBlock->(v'.ownBlock=v.ownBlock\/v'.ownBlock=some w.heap.size)->wpList P ops Q rest (a.put o.dst v') w'):wpList P ops Q (o::rest) a w :=
 wpList_plain hgd fun _ hK=>ET w s x t tx ho base e i ht hi hz hsize hby v l hs hown xv k hx hsrc hb hbase fun v' w' h2 h3 h4=>hK _ _ (h v' w' h2 h3 h4)
theorem CO{P:Program}(w:World)(src dst e:TypeId)(hs:P.underlying src=some (.slice e))(he:P.underlying e=some (.int .u8))(hd:P.underlying dst=some .string){base:Nat}{v:Value}{l:List UInt8}(h:Own e w base v l) :
  (convert src dst v).run P w=.ok (.string ⟨l.toArray⟩) w:=by
 rcases h.shape with ⟨rfl,rfl⟩|⟨g,cap,rfl,_,_,hc⟩
 ·rw[run_convert_bytes_nil w src e hs he 0 0 dst hd];rfl
 ·exact run_convert_bytes_back w src dst e ⟨g,0,none⟩ cap l hs he hd (fun j hj=>by rw[<-hc j hj];congr 1;simp[Addr.add];omega)
theorem ED{w w1 w2:World}{row row':Option Nat}(h:w.grownBy w1 row)(h':w1.grownBy w2 row')(hr:row'=row\/∃k,row'=some k/\w.heap.size<=k):w.grownBy w2 row :=
 ⟨h'.os.trans h.os,h'.tape.trans h.tape,h'.output.trans h.output,Nat.le_trans h.size h'.size,fun k hk hne=>by
  rw[h'.block k (PW hk h.size) (by
   rcases hr with rfl|⟨k',rfl,hk'⟩
   ·exact hne
   ·intro he;cases he;omega)]
  exact h.block k hk hne⟩
def Fr(w:World)(v:Value)(w':World)(v':Value):Prop:=w.grownBy w' v.ownBlock/\(v'.ownBlock=v.ownBlock\/∃g,v'.ownBlock=some g/\w.heap.size<=g)
theorem Fr.refl(w:World)(v:Value):Fr w v w v:=⟨World.grownBy.refl w _,.inl rfl⟩
theorem Fr.alloc{w:World}{v:Value}{w1:World}{b:Value}(h:Fr w v w1 b)(o:Obj):Fr w v (w1.alloc o) b :=
 ⟨ED h.1 (World.grownBy_alloc w1 o v.ownBlock) (.inl rfl),h.2⟩
theorem Fr.step{w:World}{v:Value}{w1:World}{b:Value}{w2:World}{b':Value}(h:Fr w v w1 b)(hg:w1.grownBy w2 b.ownBlock)(hb:b'.ownBlock=b.ownBlock\/b'.ownBlock=some w1.heap.size):Fr w v w2 b':=by
 refine⟨ED h.1 hg h.2,?_⟩;rcases hb with hb|hb
 ·rw[hb];exact h.2
 ·exact .inr ⟨_,hb,h.1.size⟩
theorem Hy{P:Program}(w:World)(t e:TypeId)(ht:P.underlying t=some (.slice e))(c:UInt8)(z:Int)(hz:z=(c.toNat:Int)) :
  Src P 1 t (.slice (some ⟨w.heap.size,0,none⟩) 1 1) [c].length (bcs [c]) (w.alloc (.cells #[.int .u8 z] e)):=by
 subst hz;refine Src.ofSlice (e':=e) _ ht ⟨w.heap.size,0,none⟩ 1 1 (bcs [c]) (by simp[bcs]) ?_ (E4 [c]);intro j u hj;match j,hj with
 | 0,hj=>simp[bcs]at hj;subst hj;simp[Addr.add]
theorem KZ{P:Program}(w:World)(tx:TypeId)(hk:P.underlying tx=some .string)(s:ByteArray):Src P 1 tx (.string s) s.data.toList.length (bcs s.data.toList) w:=by
 have h:=Src.ofString (P:=P) w hk s;have e:s.data.toList.length=s.size:=by rw[Array.length_toList];rfl
 rw[e];exact h
end Go.Proofs.YtjojffepakclcaaGreatDoor
namespace Go.Proofs.YtjojffepakclcaaGreatDoor
open Go Go.RowKit
open Go.ChangeMaps (setBlock)
structure Kp (S:Nat->Prop) (w w':World):Prop where
 os:w'.os=w.os
 tape:w'.tape=w.tape
 output:w'.output=w.output
 size:w.heap.size<=w'.heap.size
 block:∀k,k<w.heap.size->¬S k->w'.heap[k]?=w.heap[k]?
def none':Nat->Prop:=fun _=>False
theorem Kp.refl(S:Nat->Prop)(w:World):Kp S w w:=⟨rfl,rfl,rfl,Nat.le_refl _,fun _ _ _=>rfl⟩
theorem Kp.trans{S S' S'':Nat->Prop}{w w1 w2:World}(h:Kp S w w1)(h':Kp S' w1 w2)(h1:∀k,k<w.heap.size->S k->S'' k)(h2:∀k,k<w.heap.size->S' k->S'' k):Kp S'' w w2 :=
 ⟨h'.os.trans h.os,h'.tape.trans h.tape,h'.output.trans h.output,Nat.le_trans h.size h'.size,fun k hk hn=>by
  rw[h'.block k (PW hk h.size) (fun hs=>hn (h2 k hk hs)),h.block k hk (fun hs=>hn (h1 k hk hs))]⟩
theorem Kp.then{S:Nat->Prop}{w w1 w2:World}(h:Kp S w w1)(h':Kp S w1 w2):Kp S w w2:=h.trans h' (fun _ _ h=>h) (fun _ _ h=>h)
theorem Kp.thenN{S:Nat->Prop}{w w1 w2:World}(h:Kp S w w1)(h':Kp none' w1 w2):Kp S w w2:=h.trans h' (fun _ _ h=>h) (fun _ _ h=>h.elim)
theorem Kp.nThen{S:Nat->Prop}{w w1 w2:World}(h:Kp none' w w1)(h':Kp S w1 w2):Kp S w w2:=h.trans h' (fun _ _ h=>h.elim) (fun _ _ h=>h)
theorem Kp.mono{S S':Nat->Prop}{w w1:World}(h:Kp S w w1)(hs:∀k,k<w.heap.size->S k->S' k):Kp S' w w1 :=
 ⟨h.os,h.tape,h.output,h.size,fun k hk hn=>h.block k hk (fun hk'=>hn (hs k hk hk'))⟩
theorem Kp.ofGrown{w w':World}{row:Option Nat}(h:w.grownBy w' row){S:Nat->Prop}(hr:∀k,row=some k->k<w.heap.size->S k):Kp S w w' :=
 ⟨h.os,h.tape,h.output,h.size,fun k hk hn=>h.block k hk (fun he=>hn (hr k he.symm hk))⟩
theorem Kp.ofN{w w':World}(h:w.grownBy w' none)(S:Nat->Prop):Kp S w w':=.ofGrown h (fun _ he _=>by cases he)
theorem Kp.grown{w w':World}(h:Kp none' w w'):w.grownBy w' none:=⟨h.os,h.tape,h.output,h.size,fun k hk _=>h.block k hk (fun hf=>hf)⟩
theorem Kp.alloc(S:Nat->Prop)(w:World)(o:Obj):Kp S w (w.alloc o):=.ofN (World.grownBy_alloc w o none) S
theorem Kp.drew(S:Nat->Prop)(w:World):Kp S w w.drew:=⟨rfl,rfl,rfl,Nat.le_refl _,fun _ _ _=>rfl⟩
theorem Kp.setCell{S:Nat->Prop}(w:World)(b o:Nat)(v:Value)(hb:S b):Kp S w (w.setCell ⟨b,o,none⟩ v) :=
 ⟨rfl,rfl,rfl,by simp,fun k _ hk=>heap_setCell_other w _ k _ (fun hh=>hk (by subst hh;exact hb))⟩
theorem Kp.setCells{S:Nat->Prop}(b:Nat)(hb:S b):∀(vs:List Value) (o:Nat) (w:World),Kp S w (w.setCells b o vs)
 | [],_,w=>.refl S w
 | v::r,o,w=>(Kp.setCell w b o v hb).then (Kp.setCells b hb r (o+1) _)
theorem Kp.setBlock{S:Nat->Prop}(w:World)(b:Nat)(o:Obj)(hb:S b):Kp S w (setBlock w b o) :=
 ⟨rfl,rfl,rfl,by simp[ChangeMaps.setBlock],fun k _ hk=>by
  unfold ChangeMaps.setBlock
  have:b≠k:=fun e=>hk (e▸hb)
  simp[this]⟩
theorem Kp.cell{S:Nat->Prop}{w w':World}(h:Kp S w w'){b o:Nat}{v:Value}(hc:w.cell? ⟨b,o,none⟩=some v)(hb:¬S b):w'.cell? ⟨b,o,none⟩=some v:=by
 have hlt:b<w.heap.size:=by
  unfold World.cell? at hc;split at hc
  ·rename_i he;exact(Array.getElem?_eq_some_iff.1 he).1
  ·cases hc
 rw[World.cell?_of_block (w:=w) (h.block b hlt hb)];exact hc
theorem lt_of_cell{w:World}{b o:Nat}{v:Value}(hc:w.cell? ⟨b,o,none⟩=some v):b<w.heap.size:=by
 unfold World.cell? at hc;split at hc
 ·rename_i he;exact(Array.getElem?_eq_some_iff.1 he).1
 ·cases hc
theorem Kp.frozen{S:Nat->Prop}{w w':World}(h:Kp S w w'){b o:Nat}(hl:b<w.heap.size)(hb:¬S b):w'.frozen? ⟨b,o,none⟩=w.frozen? ⟨b,o,none⟩ :=
 World.frozen?_of_block (h.block b hl hb)
theorem Kp.rangeAt{S:Nat->Prop}{w w':World}(h:Kp S w w'){b o:Nat}{cs:List Value}(hc:w.rangeAt b o cs)(hb:¬S b):w'.rangeAt b o cs:=fun j v hv=>h.cell (hc j v hv) hb
theorem Kp.there{S:Nat->Prop}{w w':World}(h:Kp S w w'){b o n:Nat}(hc:w.there b o n)(hb:¬S b):w'.there b o n:=fun j hj=>by
 obtain⟨h1,h2⟩:=hc j hj
 obtain⟨v,hv⟩:=Option.isSome_iff_exists.1 h1
 exact⟨by rw[h.cell hv hb];rfl,by rw[h.frozen (lt_of_cell hv) hb];exact h2⟩
def secV(l:List UInt8):Value:=.agg (bcs l).toArray
theorem Kp.drewN(S:Nat->Prop)(w:World)(n:Nat):Kp S w (w.drewN n):=⟨rfl,rfl,rfl,Nat.le_refl _,fun _ _ _=>rfl⟩
def Sl{α:Type}(f:α->Value)(B:Nat)(w:World)(v:Value)(l:List α):Prop :=
 ∃a c,v=.slice a l.length c/\l.length<=c/\c<=maxLen/\∀i (h:i<l.length),∃b off,a=some ⟨b,off,none⟩/\b<B/\w.cell? ⟨b,off+i,none⟩=some (f l[i])
theorem Sl.nil{α:Type}(f:α->Value)(B:Nat)(w:World):Sl f B w (.slice none 0 0) []:=⟨none,0,rfl,Nat.le_refl _,Nat.zero_le _,fun i h=>absurd h (by simp)⟩
theorem Sl.kept{α:Type}{f:α->Value}{B:Nat}{w w':World}{v:Value}{l:List α}{S:Nat->Prop}(h:Sl f B w v l)(hk:Kp S w w')(hS:∀k,k<B->¬S k):Sl f B w' v l:=by
 obtain⟨a,c,rfl,h1,h2,h3⟩:=h;refine⟨a,c,rfl,h1,h2,fun i hi=>?_⟩;obtain⟨b,off,rfl,hb,c0⟩:=h3 i hi;exact⟨b,off,rfl,hb,hk.cell c0 (hS b hb)⟩
theorem reti{a b:Int}(h:a=b):Ending.returned (.int .i64 a)=.returned (.int .i64 b):=by rw[h]
theorem JK(l:List UInt8)(j:Nat)(h:j<l.length):(bcs l)[j]?=some (.int .u8 (l[j].toNat:Int)):=by simp[bcs,h]
def only(b:Nat):Nat->Prop:=fun k=>k=b
def Al:List UInt8:=List.replicate 64 0
theorem AO:Al.length=64:=by simp[Al]
theorem Ey(i:Int):∀(es:List MapEntry) (k:Nat),(∀e∈es,∃z:Int,e.key=.int .i64 z) ->
  (Instr.findNow (.int .i64) (.int .i64 i) es k=some none/\∀e∈es,e.key≠.int .i64 i)\/∃j e,es[j]?=some e/\e.key=.int .i64 i/\Instr.findNow (.int .i64) (.int .i64 i) es k=some (some (k+j,e.val))
 | [],k,_=>.inl ⟨rfl,by simp⟩
 | e::es,k,h=>by
  obtain⟨z,hz⟩:=h e (by simp)
  by_cases hi:i=z
  ·subst hi
   exact .inr ⟨0,e,rfl,hz,by simp[Instr.findNow,Instr.sameNow,hz]⟩
  ·have hb:(i==z)=false:=by simpa using hi
   rcases Ey i es (k+1) (fun e he=>h e (by simp[he]))with ⟨h1,h2⟩|⟨j,e',h1,h2,h3⟩
   ·refine .inl ⟨by simp[Instr.findNow,Instr.sameNow,hz,hb,h1],?_⟩
    intro e' he'
    rcases List.mem_cons.1 he' with rfl|he'
    ·rw[hz]
     intro hc
     exact hi (by cases hc;rfl)
    ·exact h2 e' he'
   ·exact .inr ⟨j+1,e',by simpa using h1,h2,by simp[Instr.findNow,Instr.sameNow,hz,hb,h3];omega⟩
theorem Bt(b:Bool)(i:Int)(w:World):(Instr.checkKey b 10000 3 (.int .i64 i)).run prog w=.ok () w:=by
 show (Instr.checkKey b (9999+1) 3 (.int .i64 i)).run prog w=.ok () w;unfold Instr.checkKey;rw[Sem.run_bind,run_underlying underlying3 w];rfl
theorem Bu{P:Program}{w:World}{ops:Array Oper}{rest:List Oper}{o:Oper}{a:Act}{Q:Exit->Act->World->Prop}(hgd:o.guard=none)(l c:Operand)(t:TypeId)(ho:o.op=.makeSlice t l c)
  (v u:Value) (hd:a.eval l=v) (hs:a.eval c=u) {v':Value} {w':World} (hr:(Instr.makeSlice t v u).run P w=.ok v' w') (h:wpList P ops Q rest (a.put o.dst v') w'):wpList P ops Q (o::rest) a w :=
 wpList_plain hgd fun _ hK=>by
  unfold Oper.wp execOp
  simp only[ho,Sem.run_bind,Sem.run_pure,Result.andThen_ok,hd,hs,hr]
  exact hK _ _ h
def Ow{α:Type}(f:α->Value)(e:TypeId)(w:World)(base:Nat)(v:Value)(l:List α):Prop:=w.ownsRow base e 1 v l.length (l.map f)
theorem Ow.nil{α:Type}(f:α->Value)(e:TypeId)(w:World)(base:Nat):Ow f e w base (.slice none 0 0) []:=World.ownsRow_nil w base e 1
theorem Ow.shape{α:Type}{f:α->Value}{e:TypeId}{w:World}{base:Nat}{v:Value}{l:List α}(h:Ow f e w base v l):(v=.slice none 0 0/\l=[]) \/
  ∃g cap,v=.slice (some ⟨g,0,none⟩) l.length cap/\base<=g/\g<w.heap.size/\(∀j (hj:j<l.length),w.cell? ⟨g,j,none⟩=some (f l[j])):=by
 have h':=h;rcases h.2 with ⟨rfl,h0⟩|⟨g,cap,cur,rfl,hb,hg,_⟩
 ·exact .inl ⟨rfl,List.eq_nil_of_length_eq_zero h0⟩
 ·refine .inr ⟨g,cap,rfl,hb,(Array.getElem?_eq_some_iff.1 hg).1,fun j hj=>?_⟩;have hc:=World.ownsRow.cellAt (g:=g) (cap:=cap) h' j (by omega);rw[hc];simp[hj]
theorem Ow.kept{α:Type}{f:α->Value}{e:TypeId}{w w':World}{base:Nat}{v:Value}{l:List α}{S:Nat->Prop}(h:Ow f e w base v l)(hk:Kp S w w')(hS:∀k,v.ownBlock=some k->¬S k):Ow f e w' base v l:=by
 rcases h.2 with ⟨rfl,h0⟩|⟨g,cap,cur,rfl,hb,hg,h1,h2,h3,h4⟩
 ·exact⟨h.1,.inl ⟨rfl,h0⟩⟩
 ·have hlt:g<w.heap.size:=(Array.getElem?_eq_some_iff.1 hg).1;exact⟨h.1,.inr ⟨g,cap,cur,rfl,hb,by rw[hk.block g hlt (hS g rfl)];exact hg,h1,h2,h3,h4⟩⟩
theorem Ow.lt{α:Type}{f:α->Value}{e:TypeId}{w:World}{base:Nat}{v:Value}{l:List α}(h:Ow f e w base v l):∀k,v.ownBlock=some k->base<=k/\k<w.heap.size:=World.ownsRow.lt h
theorem infoI:(prog.info? 3).map (fun i=>(i.zero,i.size,i.bytes))=some (some (.int .i64 0),1,8):=by kernel_rfl
theorem hide{p:Prop}(h:p):Hid p:=h
theorem Ow.open{α:Type}{f:α->Value}{e:TypeId}{w:World}{base:Nat}{v:Value}{l:List α}(h:Ow f e w base v l):∃a c,v=.slice a l.length c/\∀j (hj:j<l.length),∃g,a=some ⟨g,0,none⟩/\base<=g/\w.cell? ⟨g,j,none⟩=some (f l[j]):=by
 rcases h.shape with ⟨rfl,rfl⟩|⟨g,cap,rfl,hb,_,hc⟩
 ·exact⟨none,0,rfl,fun j hj=>absurd hj (by simp)⟩
 ·exact⟨some ⟨g,0,none⟩,cap,rfl,fun j hj=>⟨g,rfl,hb,hc j hj⟩⟩
theorem Ow.stored{α:Type}{f:α->Value}{e:TypeId}{w:World}{base g n cap:Nat}{l:List α}(h:Ow f e w base (.slice (some ⟨g,0,none⟩) n cap) l)(j:Nat)(c:α) :
  Ow f e (w.setCell ⟨g,j,none⟩ (f c)) base (.slice (some ⟨g,0,none⟩) n cap) (l.set j c)/\w.grownBy (w.setCell ⟨g,j,none⟩ (f c)) (some g):=by
 have hn:n=l.length:=by
  rcases h.2 with ⟨h1,_⟩|⟨g',cap',cur,h1,_⟩
  ·cases h1
  ·cases h1;rfl
 subst hn;have h2:=World.ownsRow.stored (g:=g) (cap:=cap) h j (f c);refine⟨?_,h2.2⟩;have e1:(l.set j c).map f=(l.map f).set j (f c):=by simp[List.map_set]
 unfold Ow;rw[e1,List.length_set];exact h2.1
theorem Ow.sl{α:Type}{f:α->Value}{e:TypeId}{w:World}{base:Nat}{v:Value}{l:List α}(h:Ow f e w base v l):Sl f w.heap.size w v l:=by
 have h':=h;rcases h.2 with ⟨rfl,h0⟩|⟨g,cap,cur,rfl,hb,hg,h1,h2,_⟩
 ·have:l=[]:=List.eq_nil_of_length_eq_zero h0;subst this;exact Sl.nil _ _ _
 ·refine⟨some ⟨g,0,none⟩,cap,rfl,h1,h2,fun j hj=>⟨g,0,rfl,(Array.getElem?_eq_some_iff.1 hg).1,?_⟩⟩;have hc:=World.ownsRow.cellAt (g:=g) (cap:=cap) h' j (by omega);rw[Nat.zero_add,hc];simp[hj]
theorem Sl.keptN{α:Type}{f:α->Value}{B:Nat}{w w':World}{v:Value}{l:List α}(h:Sl f B w v l)(hk:Kp none' w w'):Sl f B w' v l:=h.kept hk (fun _ _ h=>h)
theorem Ow.keptN{α:Type}{f:α->Value}{e:TypeId}{w w':World}{base:Nat}{v:Value}{l:List α}(h:Ow f e w base v l)(hk:Kp none' w w'):Ow f e w' base v l:=h.kept hk (fun _ _ h=>h)
end Go.Proofs.YtjojffepakclcaaGreatDoor
namespace Go.Proofs.YtjojffepakclcaaGreatDoor
open Go.RowKit
def wid(k:Int):Nat:=if k<1 then 1 else if 8<k then 8 else k.toNat
theorem Ka(k:Int):1<=wid k:=by unfold wid;split<;>(try split)<;>omega
theorem JL(k:Int):wid k<=8:=by unfold wid;split<;>(try split)<;>omega
theorem Ev(k:Int)(w:World) :
  Calls prog 150 #[.int .i64 k] w fun e w'=>e=.returned (.int .i64 (wid k:Int))/\w'=w:=by
 by_cases h1:k<1
 ·have hw:((wid k:Nat):Int)=1:=by unfold wid;simp[h1]
  rw[hw];clear hw;go_enter func150,ntmps150;go_wp2;go_ret;exact⟨rfl,rfl⟩
 ·by_cases h8:8<k
  ·have hw:((wid k:Nat):Int)=8:=by unfold wid;simp[h1,h8]
   rw[hw];clear hw;go_enter func150,ntmps150;go_wp2;go_ret;exact⟨rfl,rfl⟩
  ·have hw:((wid k:Nat):Int)=k:=by unfold wid;simp[h1,h8];omega
   rw[hw];clear hw;go_enter func150,ntmps150;go_wp2;go_ret;exact⟨rfl,rfl⟩
theorem Tryz.info5:(prog.info? 5).map (fun i=>(i.zero,i.size,i.bytes))=some (some (.int .u8 0),1,1):=by kernel_rfl
def be(n:Nat):Nat->List UInt8
 | 0=>[]
 | m+1=>UInt8.ofNat (n / 2 ^ (8*m))::be n m
theorem Cf(n m:Nat):(be n m).length=m:=by
 induction m with
 | zero=>rfl
 | succ m ih=>simp[be,ih]
theorem PM(n m:Nat):(n:Int) / 2 ^ (8*m)%256=((UInt8.ofNat (n / 2 ^ (8*m))).toNat:Int):=by
 rw[UInt8.toNat_ofNat'];simp
set_option maxRecDepth 100000 in
theorem DZ(v:Value)(l:List UInt8)(n:Nat)(k:Int)(base:Nat)(w:World)(hn:(n:Int)<18446744073709551616)(hown:Own 5 w base v l)(hb:base<=w.heap.size)(hl:l.length<=140737488355300) :
  Calls prog 152 #[v,.int .u64 n,.int .i64 k] w fun e w'=>∃v',e=.returned v'/\Own 5 w' base v' (l++be n (wid k))/\Fr w v w' v':=by
 have hlo:=Ka k;have hhi:=JL k;obtain⟨i0,hi,hz0,hz1,hz2⟩:=info_parts Tryz.info5;have Hl:Hid (l.length<=140737488355300):=hl;have Hn:Hid ((n:Int)<18446744073709551616):=hn;clear hl hn;go_enter func152,ntmps152;go_wp2_with (go_at_call 150;refine(Ev _ _).mono ?_;rintro e w' ⟨rfl,hw⟩;rw[hw];clear hw w')
 go_loopw [0,7] (fun b i wr=>∃j:Nat,j<=wid k/\i=.int .i64 ((j:Int) - 1)/\∃pre:List UInt8,Own 5 wr base b (l++pre)/\Hid (pre++be n j=be n (wid k))/\Fr w v wr b) (fun _ i _=>(intOf i+1).toNat)
 case atStart=>exact⟨wid k,Nat.le_refl _,rfl,[],by simpa using hown,rfl,Fr.refl _ _⟩
 case round =>
  obtain⟨j,hj,rfl,pre,ho,Hp,hf⟩:=hrel;have hbw:base<=wr.heap.size:=Nat.le_trans hb hf.1.size;clear hown;rcases Nat.eq_zero_or_pos j with h0|h0
  ·subst h0;have Hr:Own 5 wr base u0 (l++be n (wid k)):=by have:=Hp.out;simp only[be,List.append_nil]at this;rw[<-this];exact ho
   go_wp2;go_ret;exact⟨_,rfl,Hr,hf⟩
  ·obtain⟨m,rfl⟩:∃m,j=m+1:=⟨j - 1,by omega⟩;have hm:m<=7:=by omega
   have em:((m+1:Nat):Int) - 1=(m:Int):=by omega
   rw[em];have hpl:pre.length<=8:=by have:=congrArg List.length Hp.out;rw[List.length_append,Cf,Cf]at this;omega
   clear em h0;have hm0:(0:Int)<=(m:Int):=by omega
   have hm1:(m:Int)<=7:=by omega
   have hlen:(l++pre).length+1<=140737488355328:=by have:=Hl.out;rw[List.length_append];omega
   have Hlen:Hid ((l++pre).length+1<=140737488355328):=hlen;clear hlen;go_wp2_with (at_builtin;refine AL _ rfl (.tmp 15) (.tmp 21) 161 161 rfl base 5 i0 underlying161 hi hz0 hz1 hz2 u0 _ rfl (ho.alloc _) _ [UInt8.ofNat (n / 2 ^ (8*m))] rfl (Hy wr 161 5 underlying161 _ _ (PM n m)) Hlen.out (by simp;omega) ?_;intro v' w1 ho' hg' hv');go_roundw
   case rel =>
    refine⟨m,by omega,rfl,pre++[UInt8.ofNat (n / 2 ^ (8*m))],by simpa using ho',?_,?_⟩
    ·have:=Hp.out;simp only[be]at this;show _=_;rw[<-this];simp
    ·exact(hf.alloc _).step hg' (by simpa using hv')
   case measure=>simp[intOf]
def Rd(w:World)(b:Nat)(s:ByteArray)(e:Int):Prop:=w.heap[b]?=some (.cells #[.string s,.int .i64 e] 196 (0,0))
theorem Rd.c0{w:World}{b:Nat}{s:ByteArray}{e:Int}(h:Rd w b s e):w.cell? ⟨b,0,none⟩=some (.string s):=by
 rw[cell_of_row w b 0 _ 196 (0,0) h];rfl
theorem Rd.c1{w:World}{b:Nat}{s:ByteArray}{e:Int}(h:Rd w b s e):w.cell? ⟨b,1,none⟩=some (.int .i64 e):=by
 rw[cell_of_row w b 1 _ 196 (0,0) h];rfl
theorem Rd.fz{w:World}{b:Nat}{s:ByteArray}{e:Int}(h:Rd w b s e)(j:Nat):w.frozen? ⟨b,j,none⟩=false:=by
 unfold World.frozen?;rw[show w.heap[(⟨b,j,none⟩:Addr).block]?=_ from h];simp
theorem Rd.lt{w:World}{b:Nat}{s:ByteArray}{e:Int}(h:Rd w b s e):b<w.heap.size:=(Array.getElem?_eq_some_iff.1 h).1
theorem Rd.new(w:World)(s:ByteArray)(e:Int):Rd (w.alloc (.cells #[.string s,.int .i64 e] 196)) w.heap.size s e:=heap_alloc_new w _
theorem DU(b:Nat)(s:ByteArray)(e:Int)(w:World)(h:Rd w b s e) :
  Calls prog 98 #[.pointer (some ⟨b,0,none⟩)] w fun x w'=>x=.returned (.int .i64 e)/\w'=w:=by
 have h0:=h.c0;have h1:=h.c1;go_enter func98,ntmps98;go_wp2;go_ret;exact⟨rfl,rfl⟩
theorem MW(b:Nat)(s:ByteArray)(e:Int)(w:World)(h:Rd w b s e) :
  Calls prog 97 #[.pointer (some ⟨b,0,none⟩)] w fun x w'=>x=.returned (.int .i64 s.size)/\w'=w:=by
 have h0:=h.c0;have h1:=h.c1;go_enter func97,ntmps97;go_wp2;go_ret;exact⟨rfl,rfl⟩
theorem AV(b:Nat)(s:ByteArray)(e:Int)(w:World)(h:Rd w b s e) :
  Calls prog 136 #[.pointer (some ⟨b,0,none⟩)] w fun x w'=>x=.returned (.bool (e != 0))/\w'=w:=by
 go_enter func136,ntmps136;go_wp2_with (go_at_call 98;refine(DU _ _ _ _ h).mono ?_;rintro x w' ⟨rfl,rfl⟩);go_ret;exact⟨rfl,rfl⟩
theorem DN(b:Nat)(s:ByteArray)(e x:Int)(w:World)(h:Rd w b s e) :
  Calls prog 137 #[.pointer (some ⟨b,0,none⟩),.int .i64 x] w fun y w'=>y=.returned (.string ByteArray.empty)/\w'=w.setCell ⟨b,1,none⟩ (.int .i64 x):=by
 have h0:=h.c0;have h1:=h.c1;have hz:=h.fz 1;go_enter func137,ntmps137;go_wp2;go_ret;exact⟨rfl,rfl⟩
theorem IQ(b:Nat)(s:ByteArray)(e:Int)(k:Nat)(w:World)(h:Rd w b s e)(hk:k<=s.size)(hs:s.size<=maxLen) :
  Calls prog 138 #[.pointer (some ⟨b,0,none⟩),.int .i64 k] w fun y w'=>y=.returned (.string (s.extract 0 k))/\w'=w.setCell ⟨b,0,none⟩ (.string (s.extract k s.size)):=by
 have h0:=h.c0;have h1:=h.c1;have hz:=h.fz 0;unfold maxLen at hs;go_enter func138,ntmps138;go_wp2;go_ret;exact⟨rfl,rfl⟩
theorem NO(b:Nat)(s:ByteArray)(e:Int)(n:Nat)(w:World)(h:Rd w b s e)(hk:n<s.size)(hs:s.size<=maxLen) :
  Calls prog 138 #[.pointer (some ⟨b,0,none⟩),.int .i64 (1+(n:Int))] w fun y w'=>y=.returned (.string (s.extract 0 (1+n)))/\w'=w.setCell ⟨b,0,none⟩ (.string (s.extract (1+n) s.size)):=by
 have:=IQ b s e (1+n) w h (by omega) hs;rw[show ((1+n:Nat):Int)=1+(n:Int) from by omega]at this;exact this
theorem N5(s:ByteArray)(w:World) :
  Calls prog 94 #[.string s] w fun y w'=>y=.returned (.pointer (some ⟨w.heap.size,0,none⟩))/\w'=w.alloc (.cells #[.string s,.int .i64 0] 196):=by
 go_enter func94,ntmps94;go_wp2;go_ret;exact⟨rfl,rfl⟩
def fitsB(n:Nat)(k:Int):Bool:=decide (n<2 ^ (8*wid k))
theorem Oy(n:Nat)(k:Int):((n:Int) / 2 ^ (8*wid k)==0)=fitsB n k:=by
 unfold fitsB;rw[Bool.eq_iff_iff,beq_iff_eq,decide_eq_true_iff];have h2:0<2 ^ (8*wid k):=Nat.two_pow_pos _;have e:(n:Int) / 2 ^ (8*wid k)=((n / 2 ^ (8*wid k):Nat):Int):=by simp
 rw[e];constructor
 ·intro h;have h':n / 2 ^ (8*wid k)=0:=by omega
  exact(Nat.div_eq_zero_iff_lt h2).1 h'
 ·intro h;rw[Nat.div_eq_of_lt h];rfl
theorem NT(n:Nat)(k:Int)(w:World)(hn:(n:Int)<18446744073709551616) :
  Calls prog 181 #[.int .u64 n,.int .i64 k] w fun y w'=>y=.returned (.bool (fitsB n k))/\w'=w:=by
 have hlo:=Ka k;have hhi:=JL k;have Hn:Hid ((n:Int)<18446744073709551616):=hn;clear hn;go_enter func181,ntmps181;go_wp2_with (go_at_call 150;refine(Ev _ _).mono ?_;rintro e w' ⟨rfl,rfl⟩);go_ret;exact⟨congrArg (fun x=>Ending.returned (Value.bool x)) (Oy n k),rfl⟩
theorem Rd.set1{w:World}{b:Nat}{s:ByteArray}{e:Int}(h:Rd w b s e)(x:Int):Rd (w.setCell ⟨b,1,none⟩ (.int .i64 x)) b s x/\w.grownBy (w.setCell ⟨b,1,none⟩ (.int .i64 x)) (some b):=by
 refine⟨?_,⟨rfl,rfl,rfl,by simp,fun k _ hk=>heap_setCell_other w _ k _ (fun hb=>hk (by simp[hb]))⟩⟩;unfold Rd;rw[heap_setCell_same w b 1 _ 196 _ h];rfl
theorem Rd.set0{w:World}{b:Nat}{s:ByteArray}{e:Int}(h:Rd w b s e)(x:ByteArray):Rd (w.setCell ⟨b,0,none⟩ (.string x)) b x e/\w.grownBy (w.setCell ⟨b,0,none⟩ (.string x)) (some b):=by
 refine⟨?_,⟨rfl,rfl,rfl,by simp,fun k _ hk=>heap_setCell_other w _ k _ (fun hb=>hk (by simp[hb]))⟩⟩;unfold Rd;rw[heap_setCell_same w b 0 _ 196 _ h];rfl
def rawR(s:ByteArray)(e k:Int):ByteArray:=if e≠0\/k<0\/(s.size:Int)<k then ByteArray.empty else s.extract 0 k.toNat
def rawS(s:ByteArray)(e k:Int):ByteArray:=if e≠0\/k<0\/(s.size:Int)<k then s else s.extract k.toNat s.size
def rawE(s:ByteArray)(e k:Int):Int:=if e≠0 then e else if (s.size:Int)<k then 2 else 0
theorem Kv(b:Nat)(s:ByteArray)(e k:Int)(w:World)(h:Rd w b s e)(hs:s.size<=maxLen) :
  Calls prog 96 #[.pointer (some ⟨b,0,none⟩),.int .i64 k] w fun y w'=>y=.returned (.string (rawR s e k))/\Rd w' b (rawS s e k) (rawE s e k)/\w.grownBy w' (some b):=by
 have h0:=h.c0;have h1:=h.c1;by_cases he:e=0
 ·subst he;by_cases hk:k<0
  ·have e1:rawR s 0 k=ByteArray.empty:=by simp[rawR,hk]
   have e2:rawS s 0 k=s:=by simp[rawS,hk]
   have e3:rawE s 0 k=0:=by unfold rawE;simp;omega
   rw[e1,e2,e3];clear e1 e2 e3;go_enter func96,ntmps96;go_wp2_with (go_at_call 136;refine(AV _ _ _ _ h).mono ?_;rintro x w' ⟨rfl,rfl⟩);go_ret;exact⟨rfl,h,World.grownBy.refl _ _⟩
  ·by_cases hl:(s.size:Int)<k
   ·have e1:rawR s 0 k=ByteArray.empty:=by simp[rawR,hl]
    have e2:rawS s 0 k=s:=by simp[rawS,hl]
    have e3:rawE s 0 k=2:=by simp[rawE,hl]
    rw[e1,e2,e3];clear e1 e2 e3;go_enter func96,ntmps96;go_wp2_with (first|(go_at_call 136;refine(AV _ _ _ _ h).mono ?_;rintro x w' ⟨rfl,rfl⟩)|(go_at_call 137;refine(DN _ _ _ _ _ h).mono ?_;rintro x w' ⟨rfl,rfl⟩));go_ret;exact⟨rfl,(h.set1 2).1,(h.set1 2).2⟩
   ·obtain⟨m,rfl⟩:=Int.eq_ofNat_of_zero_le (by omega:0<=k);have hm:m<=s.size:=by omega
    have e1:rawR s 0 m=s.extract 0 m:=by unfold rawR;rw[if_neg (by omega)];simp
    have e2:rawS s 0 m=s.extract m s.size:=by unfold rawS;rw[if_neg (by omega)];simp
    have e3:rawE s 0 m=0:=by unfold rawE;simp;omega
    rw[e1,e2,e3];clear e1 e2 e3;go_enter func96,ntmps96;go_wp2_with (first|(go_at_call 136;refine(AV _ _ _ _ h).mono ?_;rintro x w' ⟨rfl,rfl⟩)|(go_at_call 138;refine(IQ _ _ _ m _ h hm hs).mono ?_;rintro x w' ⟨rfl,rfl⟩));go_ret;exact⟨rfl,(h.set0 _).1,(h.set0 _).2⟩
 ·have e1:rawR s e k=ByteArray.empty:=by simp[rawR,he]
  have e2:rawS s e k=s:=by simp[rawS,he]
  have e3:rawE s e k=e:=by simp[rawE,he]
  rw[e1,e2,e3];have he':(e != 0)=true:=by simp[he]
  clear e1 e2 e3 he;go_enter func96,ntmps96;go_wp2_with (go_at_call 136;refine(AV _ _ _ _ h).mono ?_;rintro x w' ⟨rfl,rfl⟩);go_ret;exact⟨rfl,h,World.grownBy.refl _ _⟩
def val(l:List UInt8):Nat:=l.foldl (fun a b=>a*256+b.toNat) 0
theorem MX(l:List UInt8)(c:UInt8):val (l++[c])=val l*256+c.toNat:=by simp[val]
theorem OG(l:List UInt8):∀a:Nat,l.foldl (fun a b=>a*256+b.toNat) a<(a+1)*256 ^ l.length:=by
 induction l with
 | nil=>intro a;simp
 | cons c l ih =>
  intro a;have h:=ih (a*256+c.toNat);have hc:=c.toNat_lt;have h2:(a*256+c.toNat+1)*256 ^ l.length<=((a+1)*256)*256 ^ l.length:=Nat.mul_le_mul_right _ (by omega);simp only[List.foldl_cons,List.length_cons,Nat.pow_succ];refine PW h (Nat.le_trans h2 (Nat.le_of_eq ?_));rw[Nat.mul_assoc,Nat.mul_comm 256]
theorem Og(l:List UInt8):val l<256 ^ l.length:=by have:=OG l 0;simpa[val]using this
theorem Me(s:ByteArray)(k:Nat)(h:k<s.size):s.data.toList.take (k+1)=s.data.toList.take k++[s[k]]:=by
 rw[List.take_succ_eq_append_getElem (by simpa using h)];rfl
theorem O1(x:Nat)(c:UInt8)(hx:x<72057594037927936):bits .or .u64 (IntKind.u64.wrap ((x:Int)*256)) (IntKind.u64.wrap (c.toNat:Int))=((x*256+c.toNat:Nat):Int):=by
 have hc:=c.toNat_lt;have e1:IntKind.u64.wrap ((x:Int)*256)=((x*256:Nat):Int):=by rw[IntKind.wrap_u64];omega
 have e2:IntKind.u64.wrap (c.toNat:Int)=(c.toNat:Int):=by rw[IntKind.wrap_u64];omega
 rw[e1,e2,u64_or_nat _ _ (by omega) (by omega),nat_join 8 (x*256) c.toNat (by omega) (by omega)]
theorem Ei(s:ByteArray)(e k:Int):((rawR s e k).size:Int)<=k\/(rawR s e k).size=0:=by
 unfold rawR;split
 ·exact .inr rfl
 ·left;rw[ByteArray.size_extract];omega
set_option maxRecDepth 100000 in
theorem E6(b:Nat)(s:ByteArray)(e k:Int)(w:World)(h:Rd w b s e)(hs:s.size<=maxLen) :
  Calls prog 103 #[.pointer (some ⟨b,0,none⟩),.int .i64 k] w fun y w'=>y=.returned (.int .u64 (val (rawR s e (wid k)).data.toList))/\Rd w' b (rawS s e (wid k)) (rawE s e (wid k))/\w.grownBy w' (some b):=by
 have hlo:=Ka k;have hhi:=JL k;obtain⟨r,hr⟩:∃r,r=rawR s e (wid k):=⟨_,rfl⟩;have hrs:r.size<=8:=by rw[hr];have:=Ei s e (wid k);omega
 rw[<-hr];have Hr:Hid (r=rawR s e (wid k)):=hr;clear hr;go_enter func103,ntmps103;go_wp2_with (first|(go_at_call 150;refine(Ev _ _).mono ?_;rintro e w' ⟨rfl,rfl⟩)|(go_at_call 96;refine(Kv _ _ _ _ _ h hs).mono ?_;rintro x w1 ⟨rfl,hR,hG⟩;rw[<-Hr.out]));go_loop [5,14] (fun n i=>∃j:Nat,j<=r.size/\i=.int .i64 j/\n=.int .u64 (val (r.data.toList.take j))) (fun _ i=>r.size - (intOf i).toNat)
 case atStart=>exact⟨0,Nat.zero_le _,rfl,rfl⟩
 case round =>
  obtain⟨j,hj,rfl,rfl⟩:=hrel;by_cases hlt:j<r.size
  ·have Ht:Hid (val (r.data.toList.take (j+1))=val (r.data.toList.take j)*256+r[j].toNat):=by rw[Me r j hlt];exact MX _ _
   have Hx:Hid (val (r.data.toList.take j)<72057594037927936):=by
    have h1:=Og (r.data.toList.take j);have h2:(r.data.toList.take j).length<=7:=by simp;omega
    exact PW h1 (Nat.le_trans (Nat.pow_le_pow_right (by omega) h2) (by omega))
   go_wp2;go_round
   case rel=>exact⟨j+1,by omega,by go_num,by rw[O1 _ _ Hx.out,Ht.out]⟩
   case measure=>simp[intOf];omega
  ·have Ht:Hid (r.data.toList.take j=r.data.toList):=List.take_of_length_le (by simp;omega);go_wp2;go_ret;exact⟨congrArg (fun l=>Ending.returned (Value.int .u64 ((val l:Nat):Int))) Ht.out,hR,hG⟩
def strN(s:ByteArray):Nat:=s.data.toList.headD 0 |>.toNat
def strOk(s:ByteArray)(e most:Int):Bool:=decide (e=0/\0<s.size/\(strN s:Int)<=most/\strN s<s.size)
def strR(s:ByteArray)(e most:Int):ByteArray:=if strOk s e most then s.extract 1 (1+strN s) else ByteArray.empty
def strS(s:ByteArray)(e most:Int):ByteArray:=if strOk s e most then s.extract (1+strN s) s.size else s
def strE(s:ByteArray)(e most:Int):Int:=if e≠0 then e else if s.size=0 then 2 else if most<(strN s:Int) then 3 else if s.size<=strN s then 2 else 0
theorem KM(s:ByteArray)(h:0<s.size):(s[0].toNat:Int)=(strN s:Int):=by
 have hl:0<s.data.toList.length:=by simpa using h
 have:s.data.toList.headD 0=s[0]:=by
  cases hd:s.data.toList with
  | nil=>rw[hd]at hl;simp at hl
  | cons c r =>
   show c=s.data[0];have e0:s.data.toList[0]=c:=by simp[hd]
   rw[<-e0];rfl
 unfold strN;rw[this]
theorem ext_list(s:ByteArray)(a b:Nat):(s.extract a b).data.toList=(s.data.toList.drop a).take (b - a):=by
 rw[ByteArray.data_extract];simp[List.extract]
theorem Oz(s:ByteArray)(n:Nat)(h:n<s.size):(s.extract 0 (1+n)).extract 1 (min (1+n) s.size)=s.extract 1 (1+n):=by
 apply ByteArray.ext;apply Array.ext';rw[ext_list,ext_list,ext_list];rw[show min (1+n) s.size=1+n by omega];simp only[List.drop_zero,Nat.sub_zero];rw[List.drop_take,List.take_take,Nat.min_self]
set_option maxRecDepth 100000 in
theorem FD(b:Nat)(s:ByteArray)(e k:Int)(w:World)(h:Rd w b s e)(hs:s.size<=maxLen) :
  Calls prog 179 #[.pointer (some ⟨b,0,none⟩),.int .i64 k] w fun y w'=>y=.returned (.string (strR s e k))/\Rd w' b (strS s e k) (strE s e k)/\w.grownBy w' (some b):=by
 have h0:=h.c0;have h1:=h.c1;by_cases he:e=0
 ·subst he;by_cases hz:s.size=0
  ·have e0:strOk s 0 k=false:=by simp[strOk,hz]
   have e1:strR s 0 k=ByteArray.empty:=by simp[strR,e0]
   have e2:strS s 0 k=s:=by simp[strS,e0]
   have e3:strE s 0 k=2:=by simp[strE,hz]
   rw[e1,e2,e3];have hz':((s.size:Int)==0)=true:=by simp[hz]
   clear e0 e1 e2 e3 hz;go_enter func179,ntmps179;go_wp2_with (first|(go_at_call 136;refine(AV _ _ _ _ h).mono ?_;rintro x w' ⟨rfl,rfl⟩)|(go_at_call 137;refine(DN _ _ _ _ _ h).mono ?_;rintro x w' ⟨rfl,rfl⟩));go_ret;exact⟨rfl,(h.set1 2).1,(h.set1 2).2⟩
  ·have hp:0<s.size:=by omega
   have hz':((s.size:Int)==0)=false:=by simp[hz]
   have hN:=KM s hp;have hN8:strN s<256:=(s.data.toList.headD 0).toNat_lt;by_cases hm:k<(strN s:Int)
   ·have e0:strOk s 0 k=false:=by simp[strOk];omega
    have e1:strR s 0 k=ByteArray.empty:=by simp[strR,e0]
    have e2:strS s 0 k=s:=by simp[strS,e0]
    have e3:strE s 0 k=3:=by simp[strE,hz,hm]
    rw[e1,e2,e3];clear e0 e1 e2 e3 hz;go_enter func179,ntmps179;go_wp2_with (first|(go_at_call 136;refine(AV _ _ _ _ h).mono ?_;rintro x w' ⟨rfl,rfl⟩)|(go_at_call 137;refine(DN _ _ _ _ _ h).mono ?_;rintro x w' ⟨rfl,rfl⟩));go_ret;exact⟨rfl,(h.set1 3).1,(h.set1 3).2⟩
   ·by_cases hl:s.size<=strN s
    ·have e0:strOk s 0 k=false:=by simp[strOk];omega
     have e1:strR s 0 k=ByteArray.empty:=by simp[strR,e0]
     have e2:strS s 0 k=s:=by simp[strS,e0]
     have e3:strE s 0 k=2:=by simp[strE,hz,hm,hl]
     rw[e1,e2,e3];clear e0 e1 e2 e3 hz;go_enter func179,ntmps179;go_wp2_with (first|(go_at_call 136;refine(AV _ _ _ _ h).mono ?_;rintro x w' ⟨rfl,rfl⟩)|(go_at_call 137;refine(DN _ _ _ _ _ h).mono ?_;rintro x w' ⟨rfl,rfl⟩));go_ret;exact⟨rfl,(h.set1 2).1,(h.set1 2).2⟩
    ·have e0:strOk s 0 k=true:=by simp[strOk];omega
     have e1:strR s 0 k=s.extract 1 (1+strN s):=by simp[strR,e0]
     have e2:strS s 0 k=s.extract (1+strN s) s.size:=by simp[strS,e0]
     have e3:strE s 0 k=0:=by simp[strE,hz,hm,hl]
     rw[e1,e2,e3];clear e0 e1 e2 e3 hz;go_enter func179,ntmps179;go_wp2_with (first|(go_at_call 136;refine(AV _ _ _ _ h).mono ?_;rintro x w' ⟨rfl,rfl⟩)|(go_at_call 138;refine(NO _ _ _ _ _ h (by omega) hs).mono ?_;rintro x w' ⟨rfl,rfl⟩));go_ret;exact⟨congrArg (fun x=>Ending.returned (Value.string x)) (Oz s (strN s) (by omega)),(h.set0 _).1,(h.set0 _).2⟩
 ·have e0:strOk s e k=false:=by simp[strOk,he]
  have e1:strR s e k=ByteArray.empty:=by simp[strR,e0]
  have e2:strS s e k=s:=by simp[strS,e0]
  have e3:strE s e k=e:=by simp[strE,he]
  rw[e1,e2,e3];have he':(e != 0)=true:=by simp[he]
  clear e0 e1 e2 e3 he;go_enter func179,ntmps179;go_wp2_with (go_at_call 136;refine(AV _ _ _ _ h).mono ?_;rintro x w' ⟨rfl,rfl⟩);go_ret;exact⟨rfl,h,World.grownBy.refl _ _⟩
def strB(l:List UInt8):List UInt8:=UInt8.ofNat (min l.length 255)::l.take 255
theorem C8(l:List UInt8):(strB l).length<=256:=by simp[strB];omega
set_option maxRecDepth 100000 in
theorem Hu(v:Value)(l:List UInt8)(s:ByteArray)(base:Nat)(w:World)(hs:s.size<=maxLen)(hown:Own 5 w base v l)(hb:base<=w.heap.size)(hl:l.length<=140737488355072) :
  Calls prog 206 #[v,.string s] w fun e w'=>∃v',e=.returned v'/\Own 5 w' base v' (l++strB s.data.toList)/\Fr w v w' v':=by
 obtain⟨i0,hi,hz0,hz1,hz2⟩:=info_parts Tryz.info5;unfold maxLen at hs;have Hl:Hid (l.length<=140737488355072):=hl;clear hl;by_cases hc:(s.size:Int)<=255
 ·have Hs:Hid (strB s.data.toList=UInt8.ofNat s.size::s.data.toList):=by
   have e:s.data.toList.length=s.size:=by rw[Array.length_toList];rfl
   unfold strB;rw[e,show min s.size 255=s.size by omega,List.take_of_length_le (by omega)];rfl
  have hv:(s.size:Int)=((UInt8.ofNat s.size).toNat:Int):=by rw[UInt8.toNat_ofNat'];omega
  have Hv:Hid ((s.size:Int)=((UInt8.ofNat s.size).toNat:Int)):=hv;have Hb1:Hid (l.length+1<=140737488355328):=by have:=Hl.out;show _<=_;omega
  have Hb2:Hid ((l++[UInt8.ofNat s.size]).length+s.data.toList.length<=140737488355328):=by
   have:=Hl.out;have e:s.data.toList.length=s.size:=by rw[Array.length_toList];rfl
   show _<=_;rw[List.length_append,List.length_singleton,e];omega
  clear hv;go_enter func206,ntmps206
  go_wp2_with (first|(at_builtin;refine AL _ rfl (.tmp 9) (.tmp 12) 161 161 rfl base 5 i0 underlying161 hi hz0 hz1 hz2 v _ rfl (hown.alloc _) _ [UInt8.ofNat s.size] rfl (Hy w 161 5 underlying161 _ _ Hv.out) Hb1.out (by simp;omega) ?_;intro v1 w1 ho1 hg1 hv1)|(at_builtin;refine AL _ rfl (.tmp 14) (.tmp 17) 161 9 rfl base 5 i0 underlying161 hi hz0 hz1 hz2 v1 _ rfl ho1 _ _ rfl (KZ _ 9 underlying9 s) Hb2.out (Nat.le_trans hb (Nat.le_trans (by simp) hg1.size)) ?_;intro v2 w2 ho2 hg2 hv2))
  go_ret;refine⟨_,rfl,?_,?_⟩
  ·rw[Hs.out];simpa using ho2
  ·exact(((Fr.refl w v).alloc _).step hg1 (by simpa using hv1)).step hg2 hv2
 ·have hc:255<(s.size:Int):=by omega
  have Hs:Hid (strB s.data.toList=UInt8.ofNat 255::(s.extract 0 255).data.toList):=by
   have e:s.data.toList.length=s.size:=by rw[Array.length_toList];rfl
   show _=_;unfold strB;rw[e,show min s.size 255=255 by omega,ext_list];simp
  have Hb1:Hid (l.length+1<=140737488355328):=by have:=Hl.out;show _<=_;omega
  have Hb2:Hid ((l++[UInt8.ofNat 255]).length+(s.extract 0 255).data.toList.length<=140737488355328):=by
   have:=Hl.out;have e:(s.extract 0 255).data.toList.length<=255:=by rw[ext_list];simp;omega
   show _<=_;rw[List.length_append,List.length_singleton];omega
  go_enter func206,ntmps206
  go_wp2_with (first|(at_builtin;refine AL _ rfl (.tmp 9) (.tmp 12) 161 161 rfl base 5 i0 underlying161 hi hz0 hz1 hz2 v _ rfl (hown.alloc _) _ [UInt8.ofNat 255] rfl (Hy w 161 5 underlying161 _ _ rfl) Hb1.out (by simp;omega) ?_;intro v1 w1 ho1 hg1 hv1)|(at_builtin;refine AL _ rfl (.tmp 14) (.tmp 17) 161 9 rfl base 5 i0 underlying161 hi hz0 hz1 hz2 v1 _ rfl ho1 _ _ rfl (KZ _ 9 underlying9 (s.extract 0 255)) Hb2.out (Nat.le_trans hb (Nat.le_trans (by simp) hg1.size)) ?_;intro v2 w2 ho2 hg2 hv2))
  go_ret;refine⟨_,rfl,?_,?_⟩
  ·rw[Hs.out];simpa using ho2
  ·exact(((Fr.refl w v).alloc _).step hg1 (by simpa using hv1)).step hg2 hv2
end Go.Proofs.YtjojffepakclcaaGreatDoor
namespace Go.Proofs.YtjojffepakclcaaGreatDoor
open Go
theorem NG(x m:Nat):x%2 ^ (8*(m+1))=x / 2 ^ (8*m)%256*2 ^ (8*m)+x%2 ^ (8*m):=by
 rw[show 8*(m+1)=8*m+8 by omega,Nat.pow_add,Nat.mod_mul,Nat.add_comm,Nat.mul_comm]
theorem NB(x m:Nat):(UInt8.ofNat (x / 2 ^ (8*m))).toNat=x / 2 ^ (8*m)%256:=UInt8.toNat_ofNat'
theorem OJ(x m:Nat):∀a:Nat,(be x m).foldl (fun a b=>a*256+b.toNat) a=a*2 ^ (8*m)+x%2 ^ (8*m):=by
 induction m with
 | zero=>intro a;simp[be,Nat.mod_one]
 | succ m ih =>
  intro a;simp only[be,List.foldl_cons];rw[ih,NB,NG x m,Nat.add_mul,Nat.mul_assoc a,show 8*(m+1)=8+8*m by omega,Nat.pow_add,show (2:Nat) ^ 8=256 from rfl];omega
theorem PG(x m:Nat):val (be x m)=x%2 ^ (8*m):=by
 unfold val;rw[OJ];simp
end Go.Proofs.YtjojffepakclcaaGreatDoor
namespace Go.Proofs.YtjojffepakclcaaGreatDoor
open Go Go.RowKit
theorem Bm{P:Program}(w:World)(base:Nat)(t tx ty e:TypeId)(i:TypeInfo)(z:Value)(sz by_:Nat)(ht:P.underlying t=some (.slice e))(hi:P.info? e=some i)(hz:i.zero=some z)(hzc:z.cells.size=sz)
  (hsize:i.size=sz) (hby:i.bytes=by_) (v:Value) (n:Nat) (cs:List Value) (hown:w.ownsRow base e sz v n cs) (x:Value) (m:Nat) (ds:List Value) (hs:Src P sz tx x m ds w) (hm:0<n+m)
  (hb:(n+m)*by_<=140737488355328) (hml:n+m<=maxLen) (hbase:base<=w.heap.size) :
  ∃v' w',(Builtin.append_ #[t,tx] ty #[v,x]).run P w=.ok v' w'/\w'.ownsRow base e sz v' (n+m) (cs++ds)/\w.grownBy w' v.ownBlock/\(v'.ownBlock=v.ownBlock\/v'.ownBlock=some w.heap.size):=by
 have hs':Src P i.size tx x m ds w:=by rw[hsize];exact hs
 have hcl:=hown.1;have hdl:=hs.newsLen;have hlen:(cs++ds).length=(n+m)*sz:=by rw[List.length_append,hcl,hdl,Nat.add_mul]
 have hml':n+m<=9223372036854775807:=hml;have grown:∀(old:Nat),old<n+m->∀(row:Option Nat),
   (w.drew.alloc (.cells ((cs++ds).toArray++Builtin.zeroCells z.cells (grownCap w (n+m) old e - (n+m))) e)).ownsRow base e sz
    (.slice (some ⟨w.heap.size,0,none⟩) (n+m) (grownCap w (n+m) old e)) (n+m) (cs++ds) /\
   w.grownBy (w.drew.alloc (.cells ((cs++ds).toArray++Builtin.zeroCells z.cells (grownCap w (n+m) old e - (n+m))) e)) row:=by
  intro old ho row;have hge:=grownCap_ge w (n+m) old e;have hcm:grownCap w (n+m) old e<=maxLen:=grownCap_le_maxLen w _ old e hml;refine⟨⟨hlen,.inr ⟨w.heap.size,grownCap w (n+m) old e,_,rfl,hbase,heap_alloc_new w.drew _,hge,hcm,?_,?_⟩⟩,⟨rfl,rfl,rfl,by simp,fun k' hk _=>heap_alloc_old w.drew _ hk⟩⟩
  ·simp only[Array.size_append,List.size_toArray,size_zeroCells,hzc,hlen];rw[<-Nat.add_mul];congr 1;omega
  ·simp only[Array.toList_append];rw[<-hlen];exact List.take_left
 rcases hown.2 with ⟨rfl,h0⟩|⟨g,cap,cur,rfl,hbg,hg,hnc,hcm,hcs,htake⟩
 ·subst h0;have hl:cs=[]:=List.eq_nil_of_length_eq_zero (by rw[hcl,Nat.zero_mul]);subst hl;have hr:=run_append_grow_src (P:=P) w t tx ty e i z ht hi hz none 0 0 [] (run_firstCells_none w.drew i.size 0 0 0) x m ds hs' (by omega) (by omega)
   (growslice_fits (by omega) (by rw[hby];exact hb))
  have hgr:=grown 0 (by omega) (Value.ownBlock (.slice none 0 0));exact⟨_,_,hr,hgr.1,hgr.2,.inr rfl⟩
 ·by_cases hroom:n+m<=cap
  ·have hf:=hs'.cells;have hle:(n+m)*sz<=cap*sz:=Nat.mul_le_mul_right _ hroom;have hfit:n*i.size+ds.length<=cur.size:=by rw[hsize,hcs,hdl,<-Nat.add_mul];exact hle
   have hst:=run_storeCells_at P g (n*i.size) e ds 0 cur w hg (by simpa using hfit) hs.one;simp only[Nat.add_zero]at hst;have hr:(Builtin.append_ #[t,tx] ty #[.slice (some ⟨g,0,none⟩) n cap,x]).run P w =
     .ok (.slice (some ⟨g,0,none⟩) (n+m) cap) (w.setRow g (cur.toList.take (n*i.size)++ds++cur.toList.drop (n*i.size+ds.length)).toArray):=by
    rcases hs.kind with ⟨e',hk'⟩|hk'<;>simp[Builtin.append_,run_underlying ht,run_underlying hk',sizeOf,typeInfo,hi,hs.len,hroom,hf,Addr.add_lit,hst]
   refine⟨_,_,hr,⟨hlen,.inr ⟨g,cap,_,rfl,hbg,setRow_heap w g cur _ e _ hg,hroom,hcm,?_,?_⟩⟩,⟨rfl,rfl,rfl,by simp,fun k' _ hk=>setRow_other w g k' _ (fun e=>hk (by simp[Value.ownBlock,e]))⟩,.inl rfl⟩
   ·simp only[List.size_toArray,List.length_append,List.length_take,List.length_drop,Array.length_toList];omega
   ·rw[hsize,htake,<-hlen];exact List.take_left
  ·have holds:∀j u,cs[j]?=some u->w.cell? ((⟨g,0,none⟩:Addr).add j)=some u:=World.ownsRow.cells hown (g:=g) rfl;have hr:=run_append_grow_src (P:=P) w t tx ty e i z ht hi hz (some ⟨g,0,none⟩) n cap cs (run_firstCells_some w.drew i.size n ⟨g,0,none⟩ n cap cs (by rw[hsize];exact hcl) (by simpa using holds)) x m ds hs' (by omega) (by omega)
    (growslice_fits (by omega) (by rw[hby];exact hb))
   have hgr:=grown cap (by omega) (Value.ownBlock (.slice (some ⟨g,0,none⟩) n cap));exact⟨_,_,hr,hgr.1,hgr.2,.inr rfl⟩
end Go.Proofs.YtjojffepakclcaaGreatDoor
namespace Go.Proofs.YtjojffepakclcaaGreatDoor
open Go.RowKit
def mkB(l:List UInt8):ByteArray:=⟨l.toArray⟩
theorem Ci(l:List UInt8):(mkB l).data.toList=l:=rfl
theorem AK(l:List UInt8):(mkB l).size=l.length:=by show l.toArray.size=_;simp
theorem DK(l:List UInt8)(a b:Nat):(mkB l).extract a b=mkB ((l.drop a).take (b - a)):=by
 apply ByteArray.ext;apply Array.ext';rw[ext_list,Ci,Ci]
theorem D5(s:ByteArray):mkB s.data.toList=s:=by cases s;rfl
theorem Km(a r:List UInt8):rawR (mkB (a++r)) 0 (a.length:Int)=mkB a/\rawS (mkB (a++r)) 0 (a.length:Int)=mkB r/\rawE (mkB (a++r)) 0 (a.length:Int)=0:=by
 have hz:=AK (a++r);rw[List.length_append]at hz;refine⟨?_,?_,?_⟩
 ·unfold rawR;rw[if_neg (by omega),Int.toNat_natCast,DK];simp
 ·unfold rawS;rw[if_neg (by omega),Int.toNat_natCast,DK];congr 1;rw[hz];simp
 ·unfold rawE;rw[if_neg (by omega),if_neg (by omega)]
theorem DH(b:Nat)(c:UInt8)(r:List UInt8)(w:World)(h:Rd w b (mkB (c::r)) 0)(hs:(c::r).length<=maxLen) :
  Calls prog 103 #[.pointer (some ⟨b,0,none⟩),.int .i64 1] w fun y w'=>y=.returned (.int .u64 (c.toNat:Int))/\Rd w' b (mkB r) 0/\w.grownBy w' (some b):=by
 refine(E6 b _ 0 1 w h (by rw[AK];exact hs)).mono ?_;rintro y w' ⟨rfl,hr,hg⟩;have h1:=Km [c] r;rw[show ((wid 1:Nat):Int)=(([c]:List UInt8).length:Int) from rfl]at hr |-;rw[show c::r=[c]++r from rfl]at hr |-;rw[h1.1,Ci];rw[h1.2.1,h1.2.2]at hr;exact⟨by simp[val],hr,hg⟩
end Go.Proofs.YtjojffepakclcaaGreatDoor
namespace Go.Proofs.YtjojffepakclcaaGreatDoor
def lessB(a b:ByteArray):Bool:=Op.bytesLess a.data.toList b.data.toList
theorem GF:∀a:List UInt8,Op.bytesLess a a=false
 | []=>rfl
 | x::a=>by simp[Op.bytesLess,GF a]
theorem IG:∀a b c:List UInt8,Op.bytesLess a b=true->Op.bytesLess b c=true->Op.bytesLess a c=true
 | _,_,[],_,h=>by simp[Op.bytesLess]at h
 | [],_,_::_,_,_=>rfl
 | _::_,[],_::_,h,_=>by simp[Op.bytesLess]at h
 | x::a,y::b,z::c,h,h'=>by
  simp only[Op.bytesLess,Bool.or_eq_true,decide_eq_true_eq,Bool.and_eq_true,beq_iff_eq]at h h' |-
  rcases h with h|⟨h1,h2⟩
  ·rcases h' with h'|⟨h3,h4⟩
   ·exact .inl (UInt8.lt_trans h h')
   ·subst h3;exact .inl h
  ·subst h1
   rcases h' with h'|⟨h3,h4⟩
   ·exact .inl h'
   ·exact .inr ⟨h3,IG a b c h2 h4⟩
theorem Iq:∀a b:List UInt8,Op.bytesLess a b=false->Op.bytesLess b a=false->a=b
 | [],[],_,_=>rfl
 | [],_::_,h,_=>by simp[Op.bytesLess]at h
 | _::_,[],_,h=>by simp[Op.bytesLess]at h
 | x::a,y::b,h,h'=>by
  simp only[Op.bytesLess,Bool.or_eq_false_iff,decide_eq_false_iff_not,Bool.and_eq_false_iff,beq_eq_false_iff_ne]at h h'
  have hxy:x=y:=by
   have h1:=h.1;have h2:=h'.1;exact UInt8.le_antisymm (UInt8.not_lt.1 h2) (UInt8.not_lt.1 h1)
  subst hxy;have e1:Op.bytesLess a b=false:=by rcases h.2 with e|e;exact absurd rfl e;exact e
  have e2:Op.bytesLess b a=false:=by rcases h'.2 with e|e;exact absurd rfl e;exact e
  rw[Iq a b e1 e2]
theorem Az(a:ByteArray):lessB a a=false:=GF _
theorem AP{a b c:ByteArray}(h:lessB a b=true)(h':lessB b c=true):lessB a c=true:=IG _ _ _ h h'
theorem Br{a b:ByteArray}(h:lessB a b=false)(h':lessB b a=false):a=b:=by
 have e:=Iq _ _ h h';cases a
 cases b
 simp at e;rw[e]
theorem AW{a b:ByteArray}(h:lessB a b=true):lessB b a=false:=by
 cases e:lessB b a with
 | false=>rfl
 | true=>have:=AP h e;rw[Az]at this;cases this
structure Pr where
 k:ByteArray
 v:ByteArray
structure Nd where
 leaf:Bool
 ps:List Pr
 ks:List ByteArray
 kd:List Int
def Pr.size(p:Pr):Nat:=2+p.k.size+p.v.size
def kSize(k:ByteArray):Nat:=3+k.size
def Nd.size(n:Nd):Nat:=if n.leaf then 2+(n.ps.map Pr.size).sum else 4+(n.ks.map kSize).sum
def okKey(k:ByteArray):Bool:=decide (1<=k.size/\k.size<=32)
def chainB:List ByteArray->Bool
 | []=>true
 | [_]=>true
 | a::b::l=>lessB a b&&chainB (b::l)
def ordN(l:List ByteArray):Bool:=l.all okKey&&chainB l
def okD(z:Int):Bool:=decide (1<=z/\z<=65535)
def Nd.right(n:Nd):Bool:=if n.leaf then n.ps.all (fun p=>decide (p.v.size<=40))&&(n.ks.isEmpty&&n.kd.isEmpty&&ordN (n.ps.map Pr.k)) else n.kd.all okD&&(n.ps.isEmpty&&decide (n.kd.length=n.ks.length+1)&&ordN n.ks)
def encPr(p:Pr):List UInt8:=strB p.k.data.toList++strB p.v.data.toList
def encPs(l:List Pr):List UInt8:=l.flatMap encPr
def encKs:List ByteArray->List Int->List UInt8
 | k::l,d::m=>strB k.data.toList++be d.toNat 2++encKs l m
 | _,_=>[]
def Nd.body(n:Nd):List UInt8:=if n.leaf then [1,UInt8.ofNat n.ps.length]++encPs n.ps else [2,UInt8.ofNat n.ks.length]++be (n.kd.headD 0).toNat 2++encKs n.ks n.kd.tail
def Nd.page(n:Nd):List UInt8:=n.body++List.replicate (256 - n.body.length) 0
def Nd.writeE(n:Nd):Int:=if n.right then (if 256<n.size then 3 else 0) else 4
def Nd.write(n:Nd):ByteArray:=if n.writeE=0 then mkB n.page else mkB []
theorem DE(l:List UInt8)(h:l.length<=255):strB l=UInt8.ofNat l.length::l:=by
 unfold strB;rw[Nat.min_eq_left h,List.take_of_length_le h]
theorem Ew(l:List UInt8)(h:l.length<=255):(strB l).length=1+l.length:=by
 rw[DE l h,List.length_cons];omega
theorem AG(s:ByteArray):s.data.toList.length=s.size:=by rw[Array.length_toList];rfl
theorem Ly(p:Pr)(hk:p.k.size<=255)(hv:p.v.size<=255):(encPr p).length=p.size:=by
 unfold encPr Pr.size;rw[List.length_append,Ew _ (by rw[AG];exact hk),Ew _ (by rw[AG];exact hv),AG,AG];omega
theorem Lh(l:List Pr)(h:∀p∈l,p.k.size<=255/\p.v.size<=255):(encPs l).length=(l.map Pr.size).sum:=by
 induction l with
 | nil=>rfl
 | cons p l ih =>
  have hp:=h p List.mem_cons_self;show (encPr p++encPs l).length=Pr.size p+(l.map Pr.size).sum;rw[List.length_append,Ly p hp.1 hp.2,ih (fun q hq=>h q (List.mem_cons_of_mem _ hq))]
theorem Gu:∀(l:List ByteArray) (m:List Int),m.length=l.length->(∀k∈l,k.size<=255)->(encKs l m).length=(l.map kSize).sum
 | [],[],_,_=>rfl
 | k::l,d::m,h,hk=>by
  have h1:=hk k List.mem_cons_self
  show (strB k.data.toList++be d.toNat 2++encKs l m).length=kSize k+(l.map kSize).sum
  rw[List.length_append,List.length_append,Ew _ (by rw[AG];exact h1),Cf,AG,Gu l m (by simpa using h) (fun q hq=>hk q (List.mem_cons_of_mem _ hq))]
  unfold kSize
  omega
theorem AR{n:Nd}(h:n.right=true)(hl:n.leaf=true):(∀p∈n.ps,p.v.size<=40)/\n.ks=[]/\n.kd=[]/\ordN (n.ps.map Pr.k)=true:=by
 unfold Nd.right at h;rw[if_pos hl]at h;simp only[Bool.and_eq_true,List.all_eq_true,decide_eq_true_eq,List.isEmpty_iff]at h;exact⟨h.1,h.2.1.1,h.2.1.2,h.2.2⟩
theorem Aw{n:Nd}(h:n.right=true)(hl:n.leaf=false):(∀d∈n.kd,1<=d/\d<=65535)/\n.ps=[]/\n.kd.length=n.ks.length+1/\ordN n.ks=true:=by
 unfold Nd.right at h;rw[hl]at h;simp only[Bool.false_eq_true,if_false,Bool.and_eq_true,List.all_eq_true,decide_eq_true_eq,List.isEmpty_iff,okD]at h;exact⟨h.1,h.2.1.1,h.2.1.2,h.2.2⟩
theorem Be{l:List ByteArray}(h:ordN l=true):∀k∈l,1<=k.size/\k.size<=32:=by
 unfold ordN at h;simp only[Bool.and_eq_true,List.all_eq_true,okKey,decide_eq_true_eq]at h;exact h.1
theorem Fw{l:List ByteArray}(h:ordN l=true):chainB l=true:=by
 unfold ordN at h;simp only[Bool.and_eq_true]at h;exact h.2
theorem BY{n:Nd}(h:n.right=true)(hl:n.leaf=true):∀p∈n.ps,(1<=p.k.size/\p.k.size<=32)/\p.v.size<=40:=fun p hp =>
 ⟨Be (AR h hl).2.2.2 p.k (List.mem_map_of_mem hp),(AR h hl).1 p hp⟩
theorem DP{n:Nd}(h:n.right=true):n.body.length=n.size:=by
 unfold Nd.body Nd.size;cases hl:n.leaf with
 | true =>
  rw[if_pos rfl,if_pos rfl,List.length_append,Lh _ (fun p hp=>by have:=BY h hl p hp;omega)];rfl
 | false =>
  obtain⟨h1,h2,h3,h4⟩:=Aw h hl;simp only[Bool.false_eq_true,if_false];rw[List.length_append,List.length_append,Cf,Gu _ _ (by rw[List.length_tail];omega) (fun k hk=>by have:=Be h4 k hk;omega)];rfl
theorem Eh{n:Nd}(h:n.writeE=0):n.page.length=256:=by
 unfold Nd.writeE at h;split at h
 ·rename_i hr;split at h
  ·cases h
  ·unfold Nd.page;have:=DP hr;rw[List.length_append,List.length_replicate];omega
 ·cases h
theorem Fn(l:List Pr)(h:∀p∈l,1<=p.k.size):3*l.length<=(l.map Pr.size).sum:=by
 induction l with
 | nil=>simp
 | cons p l ih =>
  have h1:=h p List.mem_cons_self;have h2:=ih (fun q hq=>h q (List.mem_cons_of_mem _ hq));show 3*(l.length+1)<=Pr.size p+(l.map Pr.size).sum;unfold Pr.size at *;omega
theorem DJ(l:List ByteArray)(h:∀k∈l,1<=k.size):4*l.length<=(l.map kSize).sum:=by
 induction l with
 | nil=>simp
 | cons p l ih =>
  have h1:=h p List.mem_cons_self;have h2:=ih (fun q hq=>h q (List.mem_cons_of_mem _ hq));show 4*(l.length+1)<=kSize p+(l.map kSize).sum;unfold kSize at *;omega
def pStr:List UInt8->Option (ByteArray × List UInt8)
 | c::r=>if c.toNat<=r.length then some (mkB (r.take c.toNat),r.drop c.toNat) else none
 | []=>none
def pPrs:Nat->List UInt8->Option (List Pr × List UInt8)
 | 0,l=>some ([],l)
 | n+1,l=>match pStr l with
  | none=>none
  | some (k,l1)=>match pStr l1 with
   | none=>none
   | some (v,l2)=>match pPrs n l2 with
    | none=>none
    | some (ps,l3)=>some (⟨k,v⟩::ps,l3)
def pKs:Nat->List UInt8->Option (List ByteArray × List Int × List UInt8)
 | 0,l=>some ([],[],l)
 | n+1,l=>match pStr l with
  | none=>none
  | some (k,l1)=>if l1.length<2 then none else match pKs n (l1.drop 2) with
   | none=>none
   | some (ks,ds,l3)=>some (k::ks,(val (l1.take 2):Int)::ds,l3)
def pNd:List UInt8->Option Nd
 | a::b::l=>if a=1 then (match pPrs b.toNat l with
   | none=>none
   | some (ps,_)=>some ⟨true,ps,[],[]⟩) else if l.length<2 then none else (match pKs b.toNat (l.drop 2) with
   | none=>none
   | some (ks,ds,_)=>some ⟨false,[],ks,(val (l.take 2):Int)::ds⟩)
 | _=>none
theorem DQ(s:ByteArray)(r:List UInt8)(h:s.size<=255):pStr (strB s.data.toList++r)=some (s,r):=by
 have hl:=AG s;rw[DE _ (by omega),List.cons_append];unfold pStr;have e:(UInt8.ofNat s.data.toList.length).toNat=s.data.toList.length:=by
  rw[UInt8.toNat_ofNat'];exact Nat.mod_eq_of_lt (by omega)
 simp only[e];rw[if_pos (by rw[List.length_append];omega),List.take_left,List.drop_left,D5]
theorem Nx(l:List Pr)(r:List UInt8)(h:∀p∈l,p.k.size<=255/\p.v.size<=255):pPrs l.length (encPs l++r)=some (l,r):=by
 induction l with
 | nil=>rfl
 | cons p l ih =>
  have hp:=h p List.mem_cons_self;have e:encPs (p::l)++r=strB p.k.data.toList++(strB p.v.data.toList++(encPs l++r)):=by
   show (encPr p++encPs l)++r=_;unfold encPr;simp only[List.append_assoc]
  rw[e];show pPrs (l.length+1) _=_;unfold pPrs;rw[DQ _ _ hp.1];dsimp only;rw[DQ _ _ hp.2];dsimp only;rw[ih (fun q hq=>h q (List.mem_cons_of_mem _ hq))]
theorem EW(d:Int)(h:1<=d/\d<=65535):(val (be d.toNat 2):Int)=d:=by
 rw[PG];have:d.toNat%2 ^ (8*2)=d.toNat:=Nat.mod_eq_of_lt (by omega);omega
theorem Kz:∀(l:List ByteArray) (m:List Int) (r:List UInt8),m.length=l.length->(∀k∈l,k.size<=255)->(∀d∈m,1<=d/\d<=65535)->pKs l.length (encKs l m++r)=some (l,m,r)
 | [],[],r,_,_,_=>rfl
 | k::l,d::m,r,h,hk,hd=>by
  have e:encKs (k::l) (d::m)++r=strB k.data.toList++(be d.toNat 2++(encKs l m++r)):=by
   show (strB k.data.toList++be d.toNat 2++encKs l m)++r=_;simp only[List.append_assoc]
  have h2:(be d.toNat 2).length=2:=Cf _ _;rw[e];show pKs (l.length+1) _=_;unfold pKs;rw[DQ _ _ (hk k List.mem_cons_self)];dsimp only;rw[if_neg (by rw[List.length_append,h2];omega)];have e1:(be d.toNat 2++(encKs l m++r)).take 2=be d.toNat 2:=by
   have:=List.take_left (l₁:=be d.toNat 2) (l₂:=encKs l m++r);rw[h2]at this;exact this
  have e2:(be d.toNat 2++(encKs l m++r)).drop 2=encKs l m++r:=by
   have:=List.drop_left (l₁:=be d.toNat 2) (l₂:=encKs l m++r);rw[h2]at this;exact this
  rw[e1,e2,Kz l m r (by simpa using h) (fun q hq=>hk q (List.mem_cons_of_mem _ hq)) (fun q hq=>hd q (List.mem_cons_of_mem _ hq)),EW d (hd d List.mem_cons_self)]
theorem M8{n:Nd}(h:n.writeE=0):pNd n.page=some n:=by
 have hr:n.right=true:=by
  unfold Nd.writeE at h;split at h
  ·assumption
  ·cases h
 have hs:n.size<=256:=by
  unfold Nd.writeE at h;rw[if_pos hr]at h;split at h
  ·cases h
  ·omega
 unfold Nd.page;generalize List.replicate (256 - n.body.length) (0:UInt8)=z;unfold Nd.body;cases hl:n.leaf with
 | true =>
  obtain⟨h1,h2,h3,h4⟩:=AR hr hl;have hps:=BY hr hl;have hlen:n.ps.length<=255:=by
   have:=Fn n.ps (fun p hp=>(hps p hp).1.1);unfold Nd.size at hs;rw[hl,if_pos rfl]at hs;omega
  have eb:(UInt8.ofNat n.ps.length).toNat=n.ps.length:=by
   rw[UInt8.toNat_ofNat'];exact Nat.mod_eq_of_lt (by omega)
  show pNd (1::UInt8.ofNat n.ps.length::(encPs n.ps++z))=_;unfold pNd;dsimp only;rw[if_pos rfl,eb,Nx _ _ (fun p hp=>by have:=hps p hp;omega)];cases n
  dsimp only at *;subst h2 h3 hl;rfl
 | false =>
  obtain⟨h1,h2,h3,h4⟩:=Aw hr hl;have hks:=Be h4;have hlen:n.ks.length<=255:=by
   have:=DJ n.ks (fun k hk=>(hks k hk).1);unfold Nd.size at hs;rw[hl]at hs;simp only[Bool.false_eq_true,if_false]at hs;omega
  have eb:(UInt8.ofNat n.ks.length).toNat=n.ks.length:=by
   rw[UInt8.toNat_ofNat'];exact Nat.mod_eq_of_lt (by omega)
  obtain⟨d,m,hkd⟩:∃d m,n.kd=d::m:=by
   cases hk:n.kd with
   | nil=>rw[hk]at h3;simp at h3
   | cons d m=>exact⟨d,m,rfl⟩
  have h2':(be d.toNat 2).length=2:=Cf _ _;simp only[Bool.false_eq_true,if_false];rw[hkd]at h1 h3 |-;show pNd (([2,UInt8.ofNat n.ks.length]++be d.toNat 2++encKs n.ks m)++z)=_;have e:([2,UInt8.ofNat n.ks.length]++be d.toNat 2++encKs n.ks m)++z=2::UInt8.ofNat n.ks.length::(be d.toNat 2++(encKs n.ks m++z)):=by
   simp only[List.append_assoc,List.cons_append,List.nil_append]
  rw[e];unfold pNd;have e1:(be d.toNat 2++(encKs n.ks m++z)).take 2=be d.toNat 2:=by
   have:=List.take_left (l₁:=be d.toNat 2) (l₂:=encKs n.ks m++z);rw[h2']at this;exact this
  have e2:(be d.toNat 2++(encKs n.ks m++z)).drop 2=encKs n.ks m++z:=by
   have:=List.drop_left (l₁:=be d.toNat 2) (l₂:=encKs n.ks m++z);rw[h2']at this;exact this
  dsimp only;rw[if_neg (by decide),if_neg (by rw[List.length_append,h2'];omega),e1,e2,eb,Kz _ _ _ (by simpa using h3) (fun k hk=>by have:=hks k hk;omega) (fun q hq=>h1 q (List.mem_cons_of_mem _ hq)),EW d (h1 d List.mem_cons_self)];dsimp only;cases n
  dsimp only at *;subst h2 hl hkd;rfl
def readN(s:ByteArray):Option Nd:=match pNd s.data.toList with
 | none=>none
 | some n=>if n.writeE=0/\mkB n.page=s then some n else none
theorem EJ{n:Nd}(h:n.writeE=0):readN n.write=some n:=by
 unfold readN Nd.write;rw[if_pos h,Ci,M8 h];dsimp only;rw[if_pos ⟨h,rfl⟩]
theorem Bn{s:ByteArray}{n:Nd}(h:readN s=some n):n.writeE=0/\n.write=s:=by
 unfold readN at h;split at h
 ·cases h
 ·split at h
  ·rename_i hc;cases h
   refine⟨hc.1,?_⟩;unfold Nd.write;rw[if_pos hc.1];exact hc.2
  ·cases h
def findN(ps:List Pr)(k:ByteArray):Nat:=(ps.filter (fun p=>lessB p.k k)).length
def hasN(ps:List Pr)(k:ByteArray):Bool:=match ps[findN ps k]? with
 | some p=>decide (p.k=k)
 | none=>false
def An(ks:List ByteArray)(k:ByteArray):Nat:=(ks.filter (fun x=>!lessB k x)).length
theorem Bl(ps:List Pr)(k:ByteArray):findN ps k<=ps.length:=List.length_filter_le _ _
def behind(ps:List Pr)(k:ByteArray):Nat:=if hasN ps k then findN ps k+1 else findN ps k
theorem Ch(ps:List Pr)(k:ByteArray):behind ps k<=ps.length:=by
 unfold behind;split
 ·rename_i h;unfold hasN at h;split at h
  ·rename_i p hp;have:=(List.getElem?_eq_some_iff.1 hp).1;omega
  ·cases h
 ·exact Bl _ _
def Nd.put(n:Nd)(k v:ByteArray):Nd:=⟨true,n.ps.take (findN n.ps k)++[⟨k,v⟩]++n.ps.drop (behind n.ps k),[],[]⟩
def Nd.cut(n:Nd)(k:ByteArray):Nd:=⟨true,n.ps.take (findN n.ps k)++n.ps.drop (behind n.ps k),[],[]⟩
def Asc(ps:List Pr):Prop:=ps.Pairwise (fun a b=>lessB a.k b.k=true)
theorem BP:∀(l:List ByteArray),chainB l=true->l.Pairwise (fun a b=>lessB a b=true)
 | [],_=>List.Pairwise.nil
 | [a],_=>List.pairwise_singleton _ _
 | a::b::l,h=>by
  simp only[chainB,Bool.and_eq_true]at h
  have ih:=BP (b::l) h.2
  refine List.Pairwise.cons (fun c hc=>?_) ih
  rcases List.mem_cons.1 hc with e|e
  ·rw[e];exact h.1
  ·exact AP h.1 ((List.pairwise_cons.1 ih).1 c e)
theorem BX:∀(l:List ByteArray),l.Pairwise (fun a b=>lessB a b=true)->chainB l=true
 | [],_=>rfl
 | [a],_=>rfl
 | a::b::l,h=>by
  obtain⟨h1,h2⟩:=List.pairwise_cons.1 h
  simp only[chainB,Bool.and_eq_true]
  exact⟨h1 b List.mem_cons_self,BX _ h2⟩
theorem LR{n:Nd}(h:n.right=true):Asc n.ps:=by
 cases hl:n.leaf with
 | true =>
  have:=BP _ (Fw (AR h hl).2.2.2);exact List.pairwise_map.1 this
 | false =>
  rw[(Aw h hl).2.1];exact List.Pairwise.nil
theorem Nz(ps:List Pr)(h:Asc ps)(k:ByteArray):∃A C,ps=A++C/\(∀p∈A,lessB p.k k=true)/\∀p∈C,lessB p.k k=false:=by
 induction ps with
 | nil=>exact⟨[],[],rfl,(fun p h=>by cases h),(fun p h=>by cases h)⟩
 | cons p ps ih =>
  obtain⟨h1,h2⟩:=List.pairwise_cons.1 h;cases hp:lessB p.k k with
  | true =>
   obtain⟨A,C,e,hA,hC⟩:=ih h2;refine⟨p::A,C,by rw[e];rfl,fun q hq=>?_,hC⟩;rcases List.mem_cons.1 hq with e|e
   ·rw[e];exact hp
   ·exact hA q e
  | false =>
   refine⟨[],p::ps,rfl,(fun q h=>by cases h),fun q hq=>?_⟩;rcases List.mem_cons.1 hq with e|e
   ·rw[e];exact hp
   ·cases hq:lessB q.k k with
    | false=>rfl
    | true =>
     have:=AP (h1 q e) hq;rw[hp]at this;cases this
theorem DX(A C:List Pr)(k:ByteArray)(hA:∀p∈A,lessB p.k k=true)(hC:∀p∈C,lessB p.k k=false):findN (A++C) k=A.length:=by
 unfold findN;rw[List.filter_append,List.filter_eq_self.2 hA,List.filter_eq_nil_iff.2 (fun p hp=>by rw[hC p hp];simp),List.append_nil]
theorem OD(A C:List Pr)(k:ByteArray)(hA:∀p∈A,lessB p.k k=true)(hC:∀p∈C,lessB p.k k=false):hasN (A++C) k=match C with
 | p::_=>decide (p.k=k)
 | []=>false:=by
 unfold hasN;rw[DX A C k hA hC,List.getElem?_append_right (Nat.le_refl _),Nat.sub_self];cases C<;>rfl
def splG(sz:Nat->Nat)(all lim:Nat):Nat->Nat->Nat->Nat
 | 0,i,_=>i
 | f+1,i,part=>if i<lim/\2*part<all then splG sz all lim f (i+1) (part+sz i) else i
def sumTo(sz:Nat->Nat):Nat->Nat
 | 0=>0
 | i+1=>sumTo sz i+sz i
theorem EC(sz:Nat->Nat)(all lim:Nat):∀f i part,part=sumTo sz i->1<=i->lim<=i+f->(i=1\/2*sumTo sz (i - 1)<all) ->
  ∃j,splG sz all lim f i part=j/\i<=j/\(j<=lim\/j=i)/\(lim<=j\/all<=2*sumTo sz j)/\(j=1\/2*sumTo sz (j - 1)<all)
 | 0,i,part,hp,h1,hl,hi=>⟨i,rfl,Nat.le_refl _,.inr rfl,.inl (by omega),hi⟩
 | f+1,i,part,hp,h1,hl,hi=>by
  unfold splG
  by_cases h:i<lim/\2*part<all
  ·rw[if_pos h]
   obtain⟨j,e,h2,h3,h4,h5⟩:=EC sz all lim f (i+1) (part+sz i) (by rw[hp];rfl) (by omega) (by omega) (.inr (by rw[Nat.add_sub_cancel,<-hp];exact h.2))
   exact⟨j,e,by omega,by omega,h4,h5⟩
  ·rw[if_neg h]
   refine⟨i,rfl,Nat.le_refl _,.inr rfl,?_,hi⟩
   by_cases hlim:i<lim
   ·right
    rw[<-hp]
    omega
   ·left
    omega
theorem CL{α:Type}(f:α->Nat)(d:α):∀(l:List α) (i:Nat),i<=l.length->sumTo (fun j=>f (l.getD j d)) i=((l.take i).map f).sum:=by
 intro l i;induction i with
 | zero=>intro _;simp[sumTo]
 | succ i ih =>
  intro h;have hi:i<l.length:=by omega
  show sumTo _ i+f (l.getD i d)=_;rw[ih (by omega),List.take_succ_eq_append_getElem hi,List.map_append,List.sum_append,List.getD_eq_getElem?_getD,List.getElem?_eq_getElem hi];simp
def Nd.at_(n:Nd):Nat:=if n.leaf then splG (fun j=>(n.ps.getD j ⟨⟨#[]⟩,⟨#[]⟩⟩).size) (n.size - 2) (n.ps.length - 1) n.ps.length 1 (n.ps.getD 0 ⟨⟨#[]⟩,⟨#[]⟩⟩).size
 else splG (fun j=>kSize (n.ks.getD j ⟨#[]⟩)) (n.size - 4) (n.ks.length - 2) n.ks.length 1 (kSize (n.ks.getD 0 ⟨#[]⟩))
def Nd.parts(n:Nd):Bool:=if n.leaf then decide (2<=n.ps.length) else decide (3<=n.ks.length/\n.kd.length=n.ks.length+1)
def Nd.fst(n:Nd):Nd:=if n.parts then (if n.leaf then ⟨true,n.ps.take n.at_,[],[]⟩ else ⟨false,[],n.ks.take n.at_,n.kd.take (n.at_+1)⟩) else n
def Nd.snd(n:Nd):Nd:=if n.parts then (if n.leaf then ⟨true,n.ps.drop n.at_,[],[]⟩ else ⟨false,[],n.ks.drop (n.at_+1),n.kd.drop (n.at_+1)⟩) else ⟨false,[],[],[]⟩
def Nd.mid(n:Nd):ByteArray:=if n.parts then (if n.leaf then (n.ps.getD n.at_ ⟨⟨#[]⟩,⟨#[]⟩⟩).k else n.ks.getD n.at_ ⟨#[]⟩) else ⟨#[]⟩
def Nd.join(a b:Nd)(k:ByteArray):Nd:=if a.leaf then ⟨true,a.ps++b.ps,[],[]⟩ else ⟨false,[],a.ks++[k]++b.ks,a.kd++b.kd⟩
end Go.Proofs.YtjojffepakclcaaGreatDoor
namespace Go.Proofs.YtjojffepakclcaaGreatDoor
open Go.RowKit
theorem I2(s:ByteArray):s.data.toList.length=s.size:=by rw[Array.length_toList];rfl
theorem IM(w:World)(n:Nat)(row:Option Nat):w.grownBy (w.drewN n) row:=⟨rfl,rfl,rfl,Nat.le_refl _,fun _ _ _=>rfl⟩
end Go.Proofs.YtjojffepakclcaaGreatDoor
