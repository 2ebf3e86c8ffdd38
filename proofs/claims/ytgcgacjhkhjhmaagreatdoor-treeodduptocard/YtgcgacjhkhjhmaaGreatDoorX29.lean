/- Part of the proof: contracts over the turned program. -/
import Derived.Laws.CopyOwn
import Derived.Test.YtgcgacjhkhjhmaaGreatDoorX26
set_option linter.unusedVariables false
set_option maxHeartbeats 4000000
open Go.Proofs.Tryz
namespace Go.Proofs.YtgcgacjhkhjhmaaGreatDoor
open Go Go.RowKit
set_option linter.unusedSimpArgs false
theorem Kp.ofBel{w w':World}(h:Below w.heap.size w w'):Kp none' w w':=⟨h.os,h.tape,h.output,h.size,fun k hk _=>h.block k hk⟩
theorem Kp.bel{w w':World}(h:Kp none' w w'):Below w.heap.size w w':=⟨h.os,h.tape,h.output,h.size,fun k hk=>h.block k hk (fun h=>h)⟩
theorem Dh{P:Program}{ops:Array Oper}{o:Oper}{a:Act}{w:World}{K:Act->World->Prop}{Q:Exit->Act->World->Prop}{E:Prop}
  (hg:o.guard=none) (d x:Operand) (dT sT:TypeId) (hop:o.op=Op.call { callee:=Callee.builtin Builtin.copy,args:=#[d,x],argTypes:=#[dT,sT] })
  (v u:Value) (hd:a.eval d=v) (hx:a.eval x=u) {v':Value} {w':World} (hr:(Builtin.copy_ #[dT,sT] o.type #[v,u]).run P w=.ok v' w') (hK:K (a.put o.dst v') w') :
  if Region.wanted o (yielded ops a.tmps)=true then Oper.wp P o a w K Q else E:=by
 have hw:Region.wanted o (yielded ops a.tmps)=true:=by simp[Region.wanted,hg]
 rw[if_pos hw];unfold Oper.wp execOp;simp only[hop,resolve,invoke,builtin,Sem.run_bind,Sem.run_pure,Result.andThen_ok,List.map_toArray,List.map_cons,List.map_nil,hd,hx,hr];exact hK
set_option maxRecDepth 100000 in
theorem Nr(g n i gx:Nat)(l:List Int)(x:Int)(base:Nat)(w:World)(hO:Ow (Value.int .i64) 3 w base (.slice (some ⟨g,0,none⟩) n n) l)(hn:l.length=n)(hi:i<n)(hn6:n<=1000000)(hx:w.cell? ⟨gx,0,none⟩=some ((Value.int .i64) x)) :
  Calls prog 154 #[.slice (some ⟨g,0,none⟩) n n,.int .i64 (i:Int),.slice (some ⟨gx,0,none⟩) 1 1] w fun e w'=>∃c,e=.returned (.slice (some ⟨w.heap.size,0,none⟩) (n+1) c)/\Ow (Value.int .i64) 3 w' w.heap.size (.slice (some ⟨w.heap.size,0,none⟩) (n+1) c) (insAt l i x)/\Kp none' w w':=by
 obtain⟨i0,hi0,hz0,hz1,hz2⟩:=info_parts infoI;have hcell:=fun j (hj:j<l.length)=>hO.cellA j hj;have hgl:=hO.lt1;have hold:(Builtin.firstCells i0.size i (.slice (some ⟨g,0,none⟩) i n)).run prog w.drew=.ok ((l.take i).map (Value.int .i64)).toArray w.drew:=by
  refine run_firstCells_some w.drew i0.size i ⟨g,0,none⟩ i n _ (by rw[hz1];simp;omega) (fun j v hj=>?_);have hjl:j<i:=by have:=(List.getElem?_eq_some_iff.1 hj).1;simp at this;omega
  rw[Ar,Nat.zero_add];rw[List.getElem?_map,List.getElem?_take,if_pos hjl,List.getElem?_eq_getElem (by omega)]at hj;simp only[Option.map_some,Option.some.injEq]at hj;rw[<-hj];exact(hcell j (by omega)).1
 obtain⟨k,Hk⟩:∃q,Hid (n+1 - i=q):=⟨_,rfl⟩;have hk0:0<k:=by have:=Hk.out;omega
 have hik:i+k=n+1:=by have:=Hk.out;omega
 have hr:=Lib.run_append_grow_zeros (P:=prog) w 33 3 33 3 i0 _ .i64 .i64 underlying33 underlying3 hi0 hz0 (some ⟨g,0,none⟩) i n _ hold k hk0 (by omega) (by omega) (by omega) (by rw[hz2];omega) (growslice_fits (by omega) (by rw[hz2];omega));have hge:=grownCap_ge w (i+k) n 3;have hcm:grownCap w (i+k) n 3<=maxLen:=grownCap_le_maxLen w _ n 3 (by unfold maxLen;omega);rw[hik]at hr hge hcm;obtain⟨c,Hc⟩:∃q,Hid (grownCap w (n+1) n 3=q):=⟨_,rfl⟩;rw[Hc.out]at hr hge hcm
 obtain⟨row,HR⟩:∃q:List Value,Hid ((((l.take i).map (Value.int .i64)).toArray++Builtin.zeroCells (.int .i64 0:Value).cells k++Builtin.zeroCells (.int .i64 0:Value).cells (c - (n+1)))=q.toArray):=⟨Array.toList _,hide (Array.toArray_toList).symm⟩;rw[HR.out]at hr;have hrl:row.length=c:=by
  have h:=congrArg Array.size HR.out;simp only[Array.size_append,List.size_toArray,List.length_map,List.length_take,size_zeroCells]at h;have e1:(.int .i64 0:Value).cells.size=1:=rfl;rw[e1]at h;omega
 have hrt:row.take i=(l.take i).map (Value.int .i64):=by
  have h:=congrArg Array.toList HR.out;simp only[Array.toList_append]at h;rw[<-h,List.append_assoc,List.take_left' (by simp;omega)]
 have hka:((k:Nat):Int)=(n:Int)+1 - (i:Int):=by omega
 rw[hka]at hr;have w1h:(w.alloc (.cells row.toArray 3)).drew.heap[w.heap.size]?=some (.cells row.toArray 3 (0,0)):=heap_alloc_new w _;have hb1:Below w.heap.size w (w.alloc (.cells row.toArray 3)).drew:=((Kp.alloc none' w (.cells row.toArray 3)).thenN (Kp.drew none' _)).bel;have hin:((i:Int)==(n:Int))=false:=by rw[beq_eq_false_iff_ne];omega
 have hi':(i:Int)<(n:Int):=by omega
 have hcm':c<=9223372036854775807:=by unfold maxLen at hcm;exact hcm
 have hge':((n:Int)+1)<=(c:Int):=by omega
 obtain⟨X1,HX1⟩:∃q,Hid ([(Value.int .i64) x]=q):=⟨_,rfl⟩;obtain⟨X2,HX2⟩:∃q,Hid ((l.drop i).map (Value.int .i64)=q):=⟨_,rfl⟩;have hX1:X1.length=1:=by rw[<-HX1.out];rfl
 have hX2:X2.length=n - i:=by rw[<-HX2.out];simp;omega
 have HC1:Hid (∀W:World,Below w.heap.size w W->∀j v,X1[j]?=some v->W.cell? ((⟨gx,0,none⟩:Addr).add j)=some v):=by
  intro W hb j v hj;rw[<-HX1.out]at hj;have hj0:j=0:=by have:=(List.getElem?_eq_some_iff.1 hj).1;simp at this;omega
  subst hj0;simp at hj;rw[Ar,<-hj];have:gx<w.heap.size:=lt_of_cell hx;exact(Kp.ofBel hb).cell hx (fun h=>h)
 have HC2:Hid (∀W:World,Below w.heap.size w W->∀j v,X2[j]?=some v->W.cell? ((⟨g,i,none⟩:Addr).add j)=some v):=by
  intro W hb j v hj;rw[<-HX2.out]at hj;have hjl:j<n - i:=by have:=(List.getElem?_eq_some_iff.1 hj).1;simp at this;omega
  rw[Ar];rw[List.getElem?_map,List.getElem?_drop,List.getElem?_eq_getElem (by omega)]at hj;simp only[Option.map_some,Option.some.injEq]at hj;rw[<-hj];exact(Kp.ofBel hb).cell (hcell (i+j) (by omega)).1 (fun h=>h)
 have HO1:Hid (∀v∈X1,v.oneCell'=true):=by rw[<-HX1.out];intro v hv;simp at hv;subst hv;rfl
 have HO2:Hid (∀v∈X2,v.oneCell'=true):=by rw[<-HX2.out];intro v hv;obtain⟨y,_,rfl⟩:=List.mem_map.1 hv;rfl
 have HEND:Hid (∀W:World,W.heap[w.heap.size]?=some (.cells (splice (splice row i X1) (i+1) X2).toArray 3 (0,0))->Ow (Value.int .i64) 3 W w.heap.size (.slice (some ⟨w.heap.size,0,none⟩) (n+1) c) (insAt l i x)):=by
  intro W hW;have hl1:(insAt l i x).length=n+1:=by unfold insAt;simp;omega
  have e1:splice row i X1=(l.take i).map (Value.int .i64)++(X1++row.drop (i+1)):=by unfold splice;rw[hrt,hX1]
  have e2:(splice row i X1).take (i+1)=(l.take i).map (Value.int .i64)++X1:=by
   rw[e1,<-List.append_assoc,List.take_left' (by rw[List.length_append,hX1];simp;omega)]
  have e3:(splice (splice row i X1) (i+1) X2).take (n+1)=(insAt l i x).map (Value.int .i64):=by
   have e4:splice (splice row i X1) (i+1) X2=((l.take i).map (Value.int .i64)++X1++X2)++(splice row i X1).drop (i+1+X2.length):=by
    rw[show splice (splice row i X1) (i+1) X2=(splice row i X1).take (i+1)++(X2++(splice row i X1).drop (i+1+X2.length)) from rfl,e2,List.append_assoc,List.append_assoc];simp[List.append_assoc]
   rw[e4,List.take_left' (by rw[List.length_append,List.length_append,hX1,hX2];simp;omega),<-HX1.out,<-HX2.out];unfold insAt;simp
  have hlen:(splice (splice row i X1) (i+1) X2).length=c:=by
   rw[length_splice _ _ _ (by rw[length_splice _ _ _ (by omega)];omega),length_splice _ _ _ (by omega),hrl]
  unfold Ow;rw[hl1];refine⟨by simp[hl1],.inr ⟨w.heap.size,c,_,rfl,Nat.le_refl _,hW,hge,hcm,by simp[hlen],?_⟩⟩;rw[Nat.mul_one,List.toList_toArray];exact e3
 clear hold hcell hO hx hrt HR;go_enter func154,ntmps154;go_upto_region 10 with (first
  | (at_builtin;refine Ak rfl (.tmp 34) (.tmp 39) 33 3 rfl _ _ rfl rfl hr ?_)
  | fail)
 generalize (w.alloc (.cells row.toArray 3)).drew=w1 at *;obtain⟨i1,Hi1⟩:∃q,Hid (i+1=q):=⟨_,rfl⟩;have HCP:Hid (∀(W:World) (dLen dCap sLen sCap:Nat) (ty:TypeId),Below w.heap.size w W->W.heap[w.heap.size]?=some (.cells (splice row i X1).toArray 3 (0,0))->X2.length=Nat.min sLen dLen->(Builtin.copy_ #[33,33] ty #[.slice (some ⟨w.heap.size,i1,none⟩) dLen dCap,.slice (some ⟨g,i,none⟩) sLen sCap]).run prog W=.ok (goInt X2.length) (W.setRow w.heap.size (splice (splice row i X1) i1 X2).toArray)):=by
  intro W dLen dCap sLen sCap ty hb hW hm;have hi1e:=Hi1.out;have hfit:i1+X2.length<=(splice row i X1).toArray.size:=by rw[List.size_toArray,length_splice _ _ _ (by omega)];omega
  have:=run_copy_row (P:=prog) W 33 33 ty 3 w.heap.size i1 dLen dCap ⟨g,i,none⟩ sLen sCap (splice row i X1).toArray 3 X2 underlying33 (by kernel_rfl) hW hm (HC2.out W hb) hfit HO2.out;rw[this];unfold splice;simp[List.append_assoc]
 have HCP1:Hid (∀(W:World) (dLen dCap:Nat),Below w.heap.size w W->W.heap[w.heap.size]?=some (.cells row.toArray 3 (0,0))->0<dLen->(Builtin.copy_ #[33,33] 3 #[.slice (some ⟨w.heap.size,i,none⟩) dLen dCap,.slice (some ⟨gx,0,none⟩) 1 1]).run prog W=.ok (goInt 1) (W.setRow w.heap.size (splice row i X1).toArray)):=by
  intro W dLen dCap hb hW hm;have hfit:i+X1.length<=row.toArray.size:=by rw[List.size_toArray];omega
  have:=run_copy_row (P:=prog) W 33 33 3 3 w.heap.size i dLen dCap ⟨gx,0,none⟩ 1 1 row.toArray 3 X1 underlying33 (by kernel_rfl) hW (by rw[hX1];simp only[Nat.min_def];split<;>omega) (HC1.out W hb) hfit HO1.out;rw[this,hX1];unfold splice;rw[hX1];simp[List.append_assoc]
 have hcp1:=HCP1.out w1 (n+1 - i) (c - i) hb1 w1h (by omega);have HG2:Hid ((w1.setRow w.heap.size (splice row i X1).toArray).heap[w.heap.size]?=some (.cells (splice row i X1).toArray 3 (0,0))):=setRow_heap w1 _ _ _ 3 _ w1h;have hb2:Below w.heap.size w (w1.setRow w.heap.size (splice row i X1).toArray):=below_setRow hb1 (Nat.le_refl _) _;obtain⟨w2,Hw2⟩:∃q,Hid (w1.setRow w.heap.size (splice row i X1).toArray=q):=⟨_,rfl⟩;rw[Hw2.out]at hcp1 HG2 hb2;go_upto_region 11 with (first
  | (at_builtin;refine wpList_copy_at _ rfl (.tmp 43) (.tmp 44) 33 33 rfl _ _ rfl rfl hcp1 ?_)
  | fail)
 have HB2d:Hid (Below w.heap.size w w2.drew):=((Kp.ofBel hb2).thenN (Kp.drew none' w2)).bel;have HG2d:Hid (w2.drew.heap[w.heap.size]?=some (.cells (splice row i X1).toArray 3 (0,0))):=HG2.out;have hi1e:=Hi1.out;have hwi:IntKind.i64.wrap ((i:Int)+1)=(i1:Int):=by rw[IntKind.wrap_i64];omega
 have hi1c:(i1:Int)<=(n:Int)+1:=by omega
 have hic2:¬c=i1:=by omega
 have hic3:¬n=i:=by omega
 have hile:i<=n:=by omega
 have hlen2:X2.length=Nat.min (n - i) (n+1 - i1):=by rw[hX2];simp only[Nat.min_def];split<;>omega
 clear hi1e;have hcp2:=fun ty=>HCP.out w2.drew (n+1 - i1) (c - i1) (n - i) (n - i) ty HB2d.out HG2d.out hlen2;have HF:Hid (Ow (Value.int .i64) 3 (w2.drew.setRow w.heap.size (splice (splice row i X1) i1 X2).toArray) w.heap.size (.slice (some ⟨w.heap.size,0,none⟩) (n+1) c) (insAt l i x)/\Kp none' w (w2.drew.setRow w.heap.size (splice (splice row i X1) i1 X2).toArray)):=by
  refine⟨HEND.out _ (by rw[Hi1.out];exact setRow_heap w2.drew _ _ _ 3 _ HG2d.out),Kp.ofBel (below_setRow HB2d.out (Nat.le_refl _) _)⟩
 obtain⟨w3,Hw3⟩:∃q,Hid (w2.drew.setRow w.heap.size (splice (splice row i X1) i1 X2).toArray=q):=⟨_,rfl⟩;rw[Hw3.out]at hcp2 HF;clear hlen2 hX2 hX1 hcp1 hb2 hb1 w1h hr;refine wp_region_held_drew (S:=fun _=>True) (by kernel_rfl) trivial (fun hHeld=>?_);refine Aa (i:=0) (d:=46) (v:=?_) rfl rfl (by kernel_rfl) (by kernel_rfl) (by kernel_rfl) (fun _ _ _ h=>h) (Or.inl ⟨by rfl,?_⟩) (by assumption) ?_;rotate_left
 ·intro W hSW;go_simp;try with_reducible rfl
 try simp only[Act.put,Qa,Qb,Qc]
 refine Aa (i:=1) (d:=47) (v:=?_) rfl rfl (by kernel_rfl) (by kernel_rfl) (by kernel_rfl) (fun _ _ _ h=>h) (Or.inl ⟨by rfl,?_⟩) (by assumption) ?_;rotate_left
 ·intro W hSW;go_simp;try with_reducible rfl
 try simp only[Act.put,Qa,Qb,Qc]
 refine Aa (i:=2) (d:=48) (v:=?_) rfl rfl (by kernel_rfl) (by kernel_rfl) (by kernel_rfl) (fun _ _ _ h=>h) (Or.inl ⟨by rfl,?_⟩) (by assumption) ?_;rotate_left
 ·intro W hSW;go_simp;try with_reducible rfl
 try simp only[Act.put,Qa,Qb,Qc]
 refine Aa (i:=3) (d:=49) (v:=?_) rfl rfl (by kernel_rfl) (by kernel_rfl) (by kernel_rfl) (fun _ _ _ h=>h) (Or.inl ⟨by rfl,?_⟩) (by assumption) ?_;rotate_left
 ·intro W hSW;go_simp;try with_reducible rfl
 try simp only[Act.put,Qa,Qb,Qc]
 refine Aa (i:=4) (d:=50) (v:=?_) rfl rfl (by kernel_rfl) (by kernel_rfl) (by kernel_rfl) (fun _ _ _ h=>h) (Or.inl ⟨by rfl,?_⟩) (by assumption) ?_;rotate_left
 ·intro W hSW;go_simp;try with_reducible rfl
 try simp only[Act.put,Qa,Qb,Qc]
 refine Aa (i:=5) (d:=51) (v:=?_) rfl rfl (by kernel_rfl) (by kernel_rfl) (by kernel_rfl) (fun _ _ _ h=>h) (Or.inl ⟨by rfl,?_⟩) (by assumption) ?_;rotate_left
 ·intro W hSW;go_simp;try with_reducible rfl
 try simp only[Act.put,Qa,Qb,Qc]
 refine Aa (i:=6) (d:=52) (v:=?_) rfl rfl (by kernel_rfl) (by kernel_rfl) (by kernel_rfl) (fun _ _ _ h=>h) (Or.inl ⟨by rfl,?_⟩) (by assumption) ?_;rotate_left
 ·intro W hSW;go_simp;try with_reducible rfl
 try simp only[Act.put,Qa,Qb,Qc]
 refine Aa (i:=7) (d:=53) (v:=?_) rfl rfl (by kernel_rfl) (by kernel_rfl) (by kernel_rfl) (fun _ _ _ h=>h) (Or.inl ⟨by rfl,?_⟩) (by assumption) ?_;rotate_left
 ·intro W hSW;go_simp;try with_reducible rfl
 try simp only[Act.put,Qa,Qb,Qc]
 refine wpAnyH_ready (rs:=[8]) (by kernel_rfl) (by simp) ?_;refine AllReadyH.cons rfl (fun K hK=>?_) ?_
 ·refine Dh (by rfl) (.tmp 50) (.tmp 53) 33 33 (by rfl) _ _ (by rfl) (by rfl) (hcp2 _) ?_;refine hK.out _ _ trivial (fun hHeld=>?_);clear hK K;try simp only[Act.put,Qa,Qb,Qc]
  refine wpAnyH_done (by kernel_rfl) ?_ _;go_wp2;go_ret;exact⟨_,rfl,HF.out.1,HF.out.2⟩
 exact AllReadyH.nil
set_option maxRecDepth 100000 in
theorem Nq(a:Option Addr)(n c gx:Nat)(l:List Int)(x:Int)(base:Nat)(w:World)(hO:Ow (Value.int .i64) 3 w base (.slice a n c) l)(hn:l.length=n)(hb:base<=w.heap.size)(hn6:n<=1000000)(hx:w.cell? ⟨gx,0,none⟩=some ((Value.int .i64) x)) :
  Calls prog 154 #[.slice a n c,.int .i64 (n:Int),.slice (some ⟨gx,0,none⟩) 1 1] w fun e w'=>∃a' c',e=.returned (.slice a' (n+1) c')/\Ow (Value.int .i64) 3 w' base (.slice a' (n+1) c') (l++[x])/\Kp (fun k=>(Value.slice a n c).ownBlock=some k) w w'/\((Value.slice a' (n+1) c').ownBlock=(Value.slice a n c).ownBlock\/∃k,(Value.slice a' (n+1) c').ownBlock=some k/\w.heap.size<=k):=by
 have hs:Src prog 1 33 (.slice (some ⟨gx,0,none⟩) 1 1) ([x]:List Int).length (([x]:List Int).map (Value.int .i64)) w:=by
  refine Src.ofSlice (e':=3) _ underlying33 ⟨gx,0,none⟩ 1 1 _ (by simp) (fun j u hj=>?_) (by intro u hu;simp at hu;subst hu;rfl);have hj0:j=0:=by have:=(List.getElem?_eq_some_iff.1 hj).1;simp at this;omega
  subst hj0;simp at hj;rw[Ar,<-hj];exact hx
 obtain⟨v',w',hq,hO',hg,hv⟩:=appI w base (.slice a n c) _ l [x] hO hs hb (by simp;omega);obtain⟨a',c',e'⟩:∃a' c',v'=.slice a' (l++[x]).length c':=by obtain⟨a',c',h1,_⟩:=hO'.open;exact⟨a',c',h1⟩
 rw[show (l++[x]).length=n+1 by simp[hn]]at e';subst e';have hcn:n<=c:=by
  rcases hO.2 with ⟨h1,h2⟩|⟨g,cap,cur,h1,_,_,h3,_⟩
  ·cases h1;omega
  ·cases h1;rw[<-hn];exact h3
 have HK:Hid (Kp (fun k=>(Value.slice a n c).ownBlock=some k) w w'):=Kp.ofGrown hg (fun k hk _=>hk);have hin:((n:Int)==(n:Int))=true:=by simp
 have hnc:(n:Int)<=(c:Int):=by omega
 clear hs hO hx;go_enter func154,ntmps154;go_wp2_with (first
  | (at_builtin;refine Ak rfl (.tmp 23) (.tmp 24) 33 33 rfl _ _ rfl rfl hq ?_)
  | fail)
 all_goals
  go_ret;refine⟨_,_,rfl,hO',HK.out.mono (fun k _ e=>by rw[<-e];try (cases a<;>rfl)),?_⟩
  rcases hv with e|e
  ·exact .inl (e.trans (by cases a<;>rfl))
  ·exact .inr ⟨_,e,Nat.le_refl _⟩
set_option maxRecDepth 100000 in
theorem Nu(g n i gx:Nat)(l:List ByteArray)(x:ByteArray)(base:Nat)(w:World)(hO:Ow Value.string 9 w base (.slice (some ⟨g,0,none⟩) n n) l)(hn:l.length=n)(hi:i<n)(hn6:n<=1000000)(hx:w.cell? ⟨gx,0,none⟩=some (Value.string x)) :
  Calls prog 153 #[.slice (some ⟨g,0,none⟩) n n,.int .i64 (i:Int),.slice (some ⟨gx,0,none⟩) 1 1] w fun e w'=>∃c,e=.returned (.slice (some ⟨w.heap.size,0,none⟩) (n+1) c)/\Ow Value.string 9 w' w.heap.size (.slice (some ⟨w.heap.size,0,none⟩) (n+1) c) (insAt l i x)/\Kp none' w w':=by
 obtain⟨i0,hi0,hz0,hz1,hz2⟩:=info_parts Fd;have hcell:=fun j (hj:j<l.length)=>hO.cellA j hj;have hgl:=hO.lt1;have hold:(Builtin.firstCells i0.size i (.slice (some ⟨g,0,none⟩) i n)).run prog w.drew=.ok ((l.take i).map Value.string).toArray w.drew:=by
  refine run_firstCells_some w.drew i0.size i ⟨g,0,none⟩ i n _ (by rw[hz1];simp;omega) (fun j v hj=>?_);have hjl:j<i:=by have:=(List.getElem?_eq_some_iff.1 hj).1;simp at this;omega
  rw[Ar,Nat.zero_add];rw[List.getElem?_map,List.getElem?_take,if_pos hjl,List.getElem?_eq_getElem (by omega)]at hj;simp only[Option.map_some,Option.some.injEq]at hj;rw[<-hj];exact(hcell j (by omega)).1
 obtain⟨k,Hk⟩:∃q,Hid (n+1 - i=q):=⟨_,rfl⟩;have hk0:0<k:=by have:=Hk.out;omega
 have hik:i+k=n+1:=by have:=Hk.out;omega
 have hr:=Lib.run_append_grow_zeros (P:=prog) w 32 3 32 9 i0 _ .i64 .i64 underlying32 underlying3 hi0 hz0 (some ⟨g,0,none⟩) i n _ hold k hk0 (by omega) (by omega) (by omega) (by rw[hz2];omega) (growslice_fits (by omega) (by rw[hz2];omega));have hge:=grownCap_ge w (i+k) n 9;have hcm:grownCap w (i+k) n 9<=maxLen:=grownCap_le_maxLen w _ n 9 (by unfold maxLen;omega);rw[hik]at hr hge hcm;obtain⟨c,Hc⟩:∃q,Hid (grownCap w (n+1) n 9=q):=⟨_,rfl⟩;rw[Hc.out]at hr hge hcm
 obtain⟨row,HR⟩:∃q:List Value,Hid ((((l.take i).map Value.string).toArray++Builtin.zeroCells (.string ⟨#[]⟩:Value).cells k++Builtin.zeroCells (.string ⟨#[]⟩:Value).cells (c - (n+1)))=q.toArray):=⟨Array.toList _,hide (Array.toArray_toList).symm⟩;rw[HR.out]at hr;have hrl:row.length=c:=by
  have h:=congrArg Array.size HR.out;simp only[Array.size_append,List.size_toArray,List.length_map,List.length_take,size_zeroCells]at h;have e1:(.string ⟨#[]⟩:Value).cells.size=1:=rfl;rw[e1]at h;omega
 have hrt:row.take i=(l.take i).map Value.string:=by
  have h:=congrArg Array.toList HR.out;simp only[Array.toList_append]at h;rw[<-h,List.append_assoc,List.take_left' (by simp;omega)]
 have hka:((k:Nat):Int)=(n:Int)+1 - (i:Int):=by omega
 rw[hka]at hr;have w1h:(w.alloc (.cells row.toArray 9)).drew.heap[w.heap.size]?=some (.cells row.toArray 9 (0,0)):=heap_alloc_new w _;have hb1:Below w.heap.size w (w.alloc (.cells row.toArray 9)).drew:=((Kp.alloc none' w (.cells row.toArray 9)).thenN (Kp.drew none' _)).bel;have hin:((i:Int)==(n:Int))=false:=by rw[beq_eq_false_iff_ne];omega
 have hi':(i:Int)<(n:Int):=by omega
 have hcm':c<=9223372036854775807:=by unfold maxLen at hcm;exact hcm
 have hge':((n:Int)+1)<=(c:Int):=by omega
 obtain⟨X1,HX1⟩:∃q,Hid ([Value.string x]=q):=⟨_,rfl⟩;obtain⟨X2,HX2⟩:∃q,Hid ((l.drop i).map Value.string=q):=⟨_,rfl⟩;have hX1:X1.length=1:=by rw[<-HX1.out];rfl
 have hX2:X2.length=n - i:=by rw[<-HX2.out];simp;omega
 have HC1:Hid (∀W:World,Below w.heap.size w W->∀j v,X1[j]?=some v->W.cell? ((⟨gx,0,none⟩:Addr).add j)=some v):=by
  intro W hb j v hj;rw[<-HX1.out]at hj;have hj0:j=0:=by have:=(List.getElem?_eq_some_iff.1 hj).1;simp at this;omega
  subst hj0;simp at hj;rw[Ar,<-hj];have:gx<w.heap.size:=lt_of_cell hx;exact(Kp.ofBel hb).cell hx (fun h=>h)
 have HC2:Hid (∀W:World,Below w.heap.size w W->∀j v,X2[j]?=some v->W.cell? ((⟨g,i,none⟩:Addr).add j)=some v):=by
  intro W hb j v hj;rw[<-HX2.out]at hj;have hjl:j<n - i:=by have:=(List.getElem?_eq_some_iff.1 hj).1;simp at this;omega
  rw[Ar];rw[List.getElem?_map,List.getElem?_drop,List.getElem?_eq_getElem (by omega)]at hj;simp only[Option.map_some,Option.some.injEq]at hj;rw[<-hj];exact(Kp.ofBel hb).cell (hcell (i+j) (by omega)).1 (fun h=>h)
 have HO1:Hid (∀v∈X1,v.oneCell'=true):=by rw[<-HX1.out];intro v hv;simp at hv;subst hv;rfl
 have HO2:Hid (∀v∈X2,v.oneCell'=true):=by rw[<-HX2.out];intro v hv;obtain⟨y,_,rfl⟩:=List.mem_map.1 hv;rfl
 have HEND:Hid (∀W:World,W.heap[w.heap.size]?=some (.cells (splice (splice row i X1) (i+1) X2).toArray 9 (0,0))->Ow Value.string 9 W w.heap.size (.slice (some ⟨w.heap.size,0,none⟩) (n+1) c) (insAt l i x)):=by
  intro W hW;have hl1:(insAt l i x).length=n+1:=by unfold insAt;simp;omega
  have e1:splice row i X1=(l.take i).map Value.string++(X1++row.drop (i+1)):=by unfold splice;rw[hrt,hX1]
  have e2:(splice row i X1).take (i+1)=(l.take i).map Value.string++X1:=by
   rw[e1,<-List.append_assoc,List.take_left' (by rw[List.length_append,hX1];simp;omega)]
  have e3:(splice (splice row i X1) (i+1) X2).take (n+1)=(insAt l i x).map Value.string:=by
   have e4:splice (splice row i X1) (i+1) X2=((l.take i).map Value.string++X1++X2)++(splice row i X1).drop (i+1+X2.length):=by
    rw[show splice (splice row i X1) (i+1) X2=(splice row i X1).take (i+1)++(X2++(splice row i X1).drop (i+1+X2.length)) from rfl,e2,List.append_assoc,List.append_assoc];simp[List.append_assoc]
   rw[e4,List.take_left' (by rw[List.length_append,List.length_append,hX1,hX2];simp;omega),<-HX1.out,<-HX2.out];unfold insAt;simp
  have hlen:(splice (splice row i X1) (i+1) X2).length=c:=by
   rw[length_splice _ _ _ (by rw[length_splice _ _ _ (by omega)];omega),length_splice _ _ _ (by omega),hrl]
  unfold Ow;rw[hl1];refine⟨by simp[hl1],.inr ⟨w.heap.size,c,_,rfl,Nat.le_refl _,hW,hge,hcm,by simp[hlen],?_⟩⟩;rw[Nat.mul_one,List.toList_toArray];exact e3
 clear hold hcell hO hx hrt HR;go_enter func153,ntmps153;go_upto_region 10 with (first
  | (at_builtin;refine Ak rfl (.tmp 34) (.tmp 39) 32 3 rfl _ _ rfl rfl hr ?_)
  | fail)
 generalize (w.alloc (.cells row.toArray 9)).drew=w1 at *;obtain⟨i1,Hi1⟩:∃q,Hid (i+1=q):=⟨_,rfl⟩;have HCP:Hid (∀(W:World) (dLen dCap sLen sCap:Nat) (ty:TypeId),Below w.heap.size w W->W.heap[w.heap.size]?=some (.cells (splice row i X1).toArray 9 (0,0))->X2.length=Nat.min sLen dLen->(Builtin.copy_ #[32,32] ty #[.slice (some ⟨w.heap.size,i1,none⟩) dLen dCap,.slice (some ⟨g,i,none⟩) sLen sCap]).run prog W=.ok (goInt X2.length) (W.setRow w.heap.size (splice (splice row i X1) i1 X2).toArray)):=by
  intro W dLen dCap sLen sCap ty hb hW hm;have hi1e:=Hi1.out;have hfit:i1+X2.length<=(splice row i X1).toArray.size:=by rw[List.size_toArray,length_splice _ _ _ (by omega)];omega
  have:=run_copy_row (P:=prog) W 32 32 ty 9 w.heap.size i1 dLen dCap ⟨g,i,none⟩ sLen sCap (splice row i X1).toArray 9 X2 underlying32 (by kernel_rfl) hW hm (HC2.out W hb) hfit HO2.out;rw[this];unfold splice;simp[List.append_assoc]
 have HCP1:Hid (∀(W:World) (dLen dCap:Nat),Below w.heap.size w W->W.heap[w.heap.size]?=some (.cells row.toArray 9 (0,0))->0<dLen->(Builtin.copy_ #[32,32] 3 #[.slice (some ⟨w.heap.size,i,none⟩) dLen dCap,.slice (some ⟨gx,0,none⟩) 1 1]).run prog W=.ok (goInt 1) (W.setRow w.heap.size (splice row i X1).toArray)):=by
  intro W dLen dCap hb hW hm;have hfit:i+X1.length<=row.toArray.size:=by rw[List.size_toArray];omega
  have:=run_copy_row (P:=prog) W 32 32 3 9 w.heap.size i dLen dCap ⟨gx,0,none⟩ 1 1 row.toArray 9 X1 underlying32 (by kernel_rfl) hW (by rw[hX1];simp only[Nat.min_def];split<;>omega) (HC1.out W hb) hfit HO1.out;rw[this,hX1];unfold splice;rw[hX1];simp[List.append_assoc]
 have hcp1:=HCP1.out w1 (n+1 - i) (c - i) hb1 w1h (by omega);have HG2:Hid ((w1.setRow w.heap.size (splice row i X1).toArray).heap[w.heap.size]?=some (.cells (splice row i X1).toArray 9 (0,0))):=setRow_heap w1 _ _ _ 9 _ w1h;have hb2:Below w.heap.size w (w1.setRow w.heap.size (splice row i X1).toArray):=below_setRow hb1 (Nat.le_refl _) _;obtain⟨w2,Hw2⟩:∃q,Hid (w1.setRow w.heap.size (splice row i X1).toArray=q):=⟨_,rfl⟩;rw[Hw2.out]at hcp1 HG2 hb2;go_upto_region 11 with (first
  | (at_builtin;refine wpList_copy_at _ rfl (.tmp 43) (.tmp 44) 32 32 rfl _ _ rfl rfl hcp1 ?_)
  | fail)
 have HB2d:Hid (Below w.heap.size w w2.drew):=((Kp.ofBel hb2).thenN (Kp.drew none' w2)).bel;have HG2d:Hid (w2.drew.heap[w.heap.size]?=some (.cells (splice row i X1).toArray 9 (0,0))):=HG2.out;have hi1e:=Hi1.out;have hwi:IntKind.i64.wrap ((i:Int)+1)=(i1:Int):=by rw[IntKind.wrap_i64];omega
 have hi1c:(i1:Int)<=(n:Int)+1:=by omega
 have hic2:¬c=i1:=by omega
 have hic3:¬n=i:=by omega
 have hile:i<=n:=by omega
 have hlen2:X2.length=Nat.min (n - i) (n+1 - i1):=by rw[hX2];simp only[Nat.min_def];split<;>omega
 clear hi1e;have hcp2:=fun ty=>HCP.out w2.drew (n+1 - i1) (c - i1) (n - i) (n - i) ty HB2d.out HG2d.out hlen2;have HF:Hid (Ow Value.string 9 (w2.drew.setRow w.heap.size (splice (splice row i X1) i1 X2).toArray) w.heap.size (.slice (some ⟨w.heap.size,0,none⟩) (n+1) c) (insAt l i x)/\Kp none' w (w2.drew.setRow w.heap.size (splice (splice row i X1) i1 X2).toArray)):=by
  refine⟨HEND.out _ (by rw[Hi1.out];exact setRow_heap w2.drew _ _ _ 9 _ HG2d.out),Kp.ofBel (below_setRow HB2d.out (Nat.le_refl _) _)⟩
 obtain⟨w3,Hw3⟩:∃q,Hid (w2.drew.setRow w.heap.size (splice (splice row i X1) i1 X2).toArray=q):=⟨_,rfl⟩;rw[Hw3.out]at hcp2 HF;clear hlen2 hX2 hX1 hcp1 hb2 hb1 w1h hr;refine wp_region_held_drew (S:=fun _=>True) (by kernel_rfl) trivial (fun hHeld=>?_);refine Aa (i:=0) (d:=46) (v:=?_) rfl rfl (by kernel_rfl) (by kernel_rfl) (by kernel_rfl) (fun _ _ _ h=>h) (Or.inl ⟨by rfl,?_⟩) (by assumption) ?_;rotate_left
 ·intro W hSW;go_simp;try with_reducible rfl
 try simp only[Act.put,Qa,Qb,Qc]
 refine Aa (i:=1) (d:=47) (v:=?_) rfl rfl (by kernel_rfl) (by kernel_rfl) (by kernel_rfl) (fun _ _ _ h=>h) (Or.inl ⟨by rfl,?_⟩) (by assumption) ?_;rotate_left
 ·intro W hSW;go_simp;try with_reducible rfl
 try simp only[Act.put,Qa,Qb,Qc]
 refine Aa (i:=2) (d:=48) (v:=?_) rfl rfl (by kernel_rfl) (by kernel_rfl) (by kernel_rfl) (fun _ _ _ h=>h) (Or.inl ⟨by rfl,?_⟩) (by assumption) ?_;rotate_left
 ·intro W hSW;go_simp;try with_reducible rfl
 try simp only[Act.put,Qa,Qb,Qc]
 refine Aa (i:=3) (d:=49) (v:=?_) rfl rfl (by kernel_rfl) (by kernel_rfl) (by kernel_rfl) (fun _ _ _ h=>h) (Or.inl ⟨by rfl,?_⟩) (by assumption) ?_;rotate_left
 ·intro W hSW;go_simp;try with_reducible rfl
 try simp only[Act.put,Qa,Qb,Qc]
 refine Aa (i:=4) (d:=50) (v:=?_) rfl rfl (by kernel_rfl) (by kernel_rfl) (by kernel_rfl) (fun _ _ _ h=>h) (Or.inl ⟨by rfl,?_⟩) (by assumption) ?_;rotate_left
 ·intro W hSW;go_simp;try with_reducible rfl
 try simp only[Act.put,Qa,Qb,Qc]
 refine Aa (i:=5) (d:=51) (v:=?_) rfl rfl (by kernel_rfl) (by kernel_rfl) (by kernel_rfl) (fun _ _ _ h=>h) (Or.inl ⟨by rfl,?_⟩) (by assumption) ?_;rotate_left
 ·intro W hSW;go_simp;try with_reducible rfl
 try simp only[Act.put,Qa,Qb,Qc]
 refine Aa (i:=6) (d:=52) (v:=?_) rfl rfl (by kernel_rfl) (by kernel_rfl) (by kernel_rfl) (fun _ _ _ h=>h) (Or.inl ⟨by rfl,?_⟩) (by assumption) ?_;rotate_left
 ·intro W hSW;go_simp;try with_reducible rfl
 try simp only[Act.put,Qa,Qb,Qc]
 refine Aa (i:=7) (d:=53) (v:=?_) rfl rfl (by kernel_rfl) (by kernel_rfl) (by kernel_rfl) (fun _ _ _ h=>h) (Or.inl ⟨by rfl,?_⟩) (by assumption) ?_;rotate_left
 ·intro W hSW;go_simp;try with_reducible rfl
 try simp only[Act.put,Qa,Qb,Qc]
 refine wpAnyH_ready (rs:=[8]) (by kernel_rfl) (by simp) ?_;refine AllReadyH.cons rfl (fun K hK=>?_) ?_
 ·refine Dh (by rfl) (.tmp 50) (.tmp 53) 32 32 (by rfl) _ _ (by rfl) (by rfl) (hcp2 _) ?_;refine hK.out _ _ trivial (fun hHeld=>?_);clear hK K;try simp only[Act.put,Qa,Qb,Qc]
  refine wpAnyH_done (by kernel_rfl) ?_ _;go_wp2;go_ret;exact⟨_,rfl,HF.out.1,HF.out.2⟩
 exact AllReadyH.nil
set_option maxRecDepth 100000 in
theorem Nt(a:Option Addr)(n c gx:Nat)(l:List ByteArray)(x:ByteArray)(base:Nat)(w:World)(hO:Ow Value.string 9 w base (.slice a n c) l)(hn:l.length=n)(hb:base<=w.heap.size)(hn6:n<=1000000)(hx:w.cell? ⟨gx,0,none⟩=some (Value.string x)) :
  Calls prog 153 #[.slice a n c,.int .i64 (n:Int),.slice (some ⟨gx,0,none⟩) 1 1] w fun e w'=>∃a' c',e=.returned (.slice a' (n+1) c')/\Ow Value.string 9 w' base (.slice a' (n+1) c') (l++[x])/\Kp (fun k=>(Value.slice a n c).ownBlock=some k) w w'/\((Value.slice a' (n+1) c').ownBlock=(Value.slice a n c).ownBlock\/∃k,(Value.slice a' (n+1) c').ownBlock=some k/\w.heap.size<=k):=by
 have hs:Src prog 1 32 (.slice (some ⟨gx,0,none⟩) 1 1) ([x]:List ByteArray).length (([x]:List ByteArray).map Value.string) w:=by
  refine Src.ofSlice (e':=9) _ underlying32 ⟨gx,0,none⟩ 1 1 _ (by simp) (fun j u hj=>?_) (by intro u hu;simp at hu;subst hu;rfl);have hj0:j=0:=by have:=(List.getElem?_eq_some_iff.1 hj).1;simp at this;omega
  subst hj0;simp at hj;rw[Ar,<-hj];exact hx
 obtain⟨v',w',hq,hO',hg,hv⟩:=appT w base (.slice a n c) _ l [x] hO hs hb (by simp;omega);obtain⟨a',c',e'⟩:∃a' c',v'=.slice a' (l++[x]).length c':=by obtain⟨a',c',h1,_⟩:=hO'.open;exact⟨a',c',h1⟩
 rw[show (l++[x]).length=n+1 by simp[hn]]at e';subst e';have hcn:n<=c:=by
  rcases hO.2 with ⟨h1,h2⟩|⟨g,cap,cur,h1,_,_,h3,_⟩
  ·cases h1;omega
  ·cases h1;rw[<-hn];exact h3
 have HK:Hid (Kp (fun k=>(Value.slice a n c).ownBlock=some k) w w'):=Kp.ofGrown hg (fun k hk _=>hk);have hin:((n:Int)==(n:Int))=true:=by simp
 have hnc:(n:Int)<=(c:Int):=by omega
 clear hs hO hx;go_enter func153,ntmps153;go_wp2_with (first
  | (at_builtin;refine Ak rfl (.tmp 23) (.tmp 24) 32 32 rfl _ _ rfl rfl hq ?_)
  | fail)
 all_goals
  go_ret;refine⟨_,_,rfl,hO',HK.out.mono (fun k _ e=>by rw[<-e];try (cases a<;>rfl)),?_⟩
  rcases hv with e|e
  ·exact .inl (e.trans (by cases a<;>rfl))
  ·exact .inr ⟨_,e,Nat.le_refl _⟩
end Go.Proofs.YtgcgacjhkhjhmaaGreatDoor
