/- Part of the proof: contracts over the turned program. -/
import Derived.Deep.RegionHeld3
import Derived.Test.YtjojffepakclcaaGreatDoorX4
set_option linter.unusedVariables false
set_option maxHeartbeats 4000000
open Go.Proofs.Tryz
namespace Go.Proofs.YtjojffepakclcaaGreatDoor
open Go Go.RowKit
theorem Aa{P:Program}{md:Region.Mode}{ops:Array Oper}{Q:Exit->Act->World->Prop}{S:World->Prop}{i d:Nat}{oi:Oper}{v:Value}{fuel:Nat}{listed:Array Bool}{a:Act}{w:World}(hi:ops[i]?=some oi)(hd:oi.dst=some d)
  (hs:Region.noSelect ops=true) (hf:Region.free md ops listed i=true) (hr:(Region.ready md ops listed).contains i=true)
  (hQ:∀c a w,Q (.panic c) (a.put oi.dst v) w->Q (.panic c) a w) (hy:YieldsIf P ops S oi v a) (hS:S w)
  (h:wpAnyH P md ops Q S fuel (listed.setIfInBounds i true) (a.put (some d) v) w):wpAnyH P md ops Q S (fuel+1) listed a w :=
 wpAnyH_take hi hs hf hr hQ hy hS (by rw[hd];exact h)
theorem Ia{B:Nat}{w:World}{y:Value}{n:Nd}(h:Nv B w y n):∃a1 c1 a2 c2 a3 c3,y=.agg #[.bool n.leaf,.slice a1 n.ps.length c1,.slice a2 n.ks.length c2,.slice a3 n.kd.length c3]:=by
 obtain⟨⟨pv,kv,dv,rfl,hP,hS,hD⟩,_⟩:=h;obtain⟨a1,c1,rfl,_⟩:=hP;obtain⟨a2,c2,rfl,_⟩:=hS;obtain⟨a3,c3,rfl,_⟩:=hD;exact⟨a1,c1,a2,c2,a3,c3,rfl⟩
theorem PN{w W:World}{x:Value}{n:Nd}(h:Nv w.heap.size w x n)(hk:Kp none' w W):Nv W.heap.size W x n:=(h.keptN hk).more hk.size
theorem Ax{w W:World}{b g:Nat}{l:Bool}{pv kv dv:Value}(h:Nb w b l pv kv dv)(hne:b≠g)(hk:Kp (only g) w W):Nb W b l pv kv dv:=h.kept hk hne
theorem Av{w w1 W:World}{g:Nat}(h:Kp none' w w1)(hg:w.heap.size<=g)(hk:Kp (only g) w1 W):Kp none' w W:=h.trans hk (fun _ _ h=>h) (fun k hk' e=>by unfold only at e;omega)
set_option maxRecDepth 100000 in
theorem Bf{w:World}{ops:Array Oper}{o:Oper}{a:Act}{K:Act->World->Prop}{Q:Exit->Act->World->Prop}{E:Prop}{d:Nat}(hgd:o.guard=none)(hd:o.dst=some d)(ho:o.op=.alloc 73)
  (h:∀W' g,Nb W' g false (.slice none 0 0) (.slice none 0 0) (.slice none 0 0)->Kp none' w W'->w.heap.size<=g->K (a.put (some d) (.pointer (some ⟨g,0,none⟩))) W') :
  if Region.wanted o (yielded ops a.tmps)=true then Oper.wp prog o a w K Q else E:=by
 have hw:Region.wanted o (yielded ops a.tmps)=true:=by simp[Region.wanted,hgd]
 rw[if_pos hw];have h1:=h _ w.heap.size (Nb.new w false (.slice none 0 0) (.slice none 0 0) (.slice none 0 0)) (Kp.alloc _ _ _) (Nat.le_refl _);clear h;obtain⟨dst,op,type,pos,after,guard⟩:=o;dsimp only at hgd hd ho;subst hgd hd ho;unfold Oper.wp execOp;dsimp only;go_simp;first|exact h1|(simp only[Act.put]at h1 |-;exact h1)
set_option maxRecDepth 100000 in
theorem Ah{w:World}{ops:Array Oper}{o:Oper}{a:Act}{K:Act->World->Prop}{Q:Exit->Act->World->Prop}{E:Prop}(hgd:o.guard=none)(hd:o.dst=none)(p x:Operand)(ho:o.op=.store 73 p x)(g:Nat)(hp:a.eval p=.pointer (some ⟨g,0,none⟩)){l l':Bool}{pv kv dv:Value}{a1 a2 a3:Option Addr}{n1 c1 n2 c2 n3 c3:Nat}
  (hx:a.eval x=.agg #[.bool l',.slice a1 n1 c1,.slice a2 n2 c2,.slice a3 n3 c3]) (hN:Nb w g l pv kv dv)
  (h:∀W',Nb W' g l' (.slice a1 n1 c1) (.slice a2 n2 c2) (.slice a3 n3 c3)->Kp (only g) w W'->K a W') :
  if Region.wanted o (yielded ops a.tmps)=true then Oper.wp prog o a w K Q else E:=by
 have hw:Region.wanted o (yielded ops a.tmps)=true:=by simp[Region.wanted,hgd]
 rw[if_pos hw];have hpt:=hN.put l' (.slice a1 n1 c1) (.slice a2 n2 c2) (.slice a3 n3 c3);have h1:=h _ hpt.1 hpt.2;have d0:=hN.c0;have d1:=hN.c1;have d2:=hN.c2;have d3:=hN.c3;have f0:=hN.fz 0;have f1:=hN.fz 1;have f2:=hN.fz 2;have f3:=hN.fz 3;clear hpt h;obtain⟨dst,op,type,pos,after,guard⟩:=o;dsimp only at hgd hd ho;subst hgd hd ho;unfold Oper.wp execOp;dsimp only;simp only[hp,hx];go_simp;first|exact h1|(simp only[Act.put]at h1 |-;exact h1)
end Go.Proofs.YtjojffepakclcaaGreatDoor
namespace Go.Proofs.YtjojffepakclcaaGreatDoor
open Go Go.RowKit
section
variable {P : Program} {ops : Array Oper} {Q : Exit → Act → World → Prop} {md : Region.Mode} {S : World → Prop} {s : Nat}
def wpAnyL(P:Program)(md:Region.Mode)(ops:Array Oper)(Q:Exit->Act->World->Prop)(S:World->Prop)(s:Nat):Nat->Array Bool->Act->World->Prop
 | 0,listed,a,w=>Region.ready md ops listed=[]/\Q .normal a w
 | fuel+1,listed,a,w =>
  (Region.ready md ops listed=[]->Q .normal a w) /\
  ∀i∈Region.ready md ops listed,wpOp P ops Q i (fun a' w'=>(i=s\/S w')/\wpAnyL P md ops Q S s fuel (listed.setIfInBounds i true) a' w') a w
theorem FR:∀(fuel:Nat) (listed:Array Bool) (a:Act) (w:World),wpAnyL P md ops Q S s fuel listed a w->wpAny P md ops Q fuel listed a w
 | 0,_,_,_,h=>h
 | fuel+1,_,_,_,h=>⟨h.1,fun i hi=>wpOp_mono (fun a' w' h'=>FR fuel _ a' w' h'.2) (h.2 i hi)⟩
def Shutd(md:Region.Mode)(ops:Array Oper)(listed:Array Bool):Prop:=∀k o,ops[k]?=some o->listed.getD k false=true->∀e∈o.after,Region.binds md e=true->listed.getD e.on false=true
def shutB(md:Region.Mode)(ops:Array Oper)(listed:Array Bool):Bool:=(List.range ops.size).all fun k=>match ops[k]? with|some o=>!listed.getD k false||o.after.all (fun e=>!Region.binds md e||listed.getD e.on false)|none=>true
theorem Mz{listed:Array Bool}(h:shutB md ops listed=true):Shutd md ops listed:=by
 intro k o ho hk e he hb;have hl:k<ops.size:=(Array.getElem?_eq_some_iff.1 ho).1;have h1:=List.all_eq_true.1 h k (List.mem_range.2 hl);simp only[ho,hk,Bool.not_true,Bool.false_or]at h1;have h2:=Array.all_eq_true_iff_forall_mem.1 h1 e he;simpa[hb]using h2
theorem Shutd.set{listed:Array Bool}(h:Shutd md ops listed){j:Nat}(hj:j∈Region.ready md ops listed):Shutd md ops (listed.setIfInBounds j true):=by
 intro k o ho hk e he hb;by_cases hjk:j=k
 ·subst hjk;obtain⟨_,o',ho',hall⟩:=mem_ready.1 hj;rw[ho]at ho';cases ho'
  exact getD_set_true (hall e he hb)
 ·rw[getD_set_ne false hjk]at hk;exact getD_set_true (h k o ho hk e he hb)
def chnB(md:Region.Mode)(ops:Array Oper):List Nat->Bool
 | x::y::t=>(match ops[x]? with|some o=>o.after.any (fun e=>Region.binds md e&&e.on==y)|none=>false)&&chnB md ops (y::t)
 | _=>true
theorem DW{listed:Array Bool}(h:Shutd md ops listed):∀(t:List Nat) (x i:Nat),chnB md ops (x::t)=true->(x::t).getLast?=some i->listed.getD x false=true->listed.getD i false=true
 | [],x,i,_,hl,hx=>by simp at hl;subst hl;exact hx
 | y::t,x,i,hc,hl,hx=>by
  rw[chnB,Bool.and_eq_true]at hc
  obtain⟨h1,h2⟩:=hc
  cases ho:ops[x]? with
  | none=>rw[ho]at h1;cases h1
  | some o =>
   rw[ho]at h1
   obtain⟨e,he,h3⟩:=Array.any_eq_true.1 h1
   rw[Bool.and_eq_true]at h3
   have h5:=h x o ho hx _ (Array.getElem_mem he) h3.1
   rw[show (o.after[e]).on=y by simpa using h3.2]at h5
   exact DW h t y i h2 (by rw[List.getLast?_cons_cons]at hl;exact hl) h5
theorem wpAnyL_first{i:Nat}{oi:Oper}{v:Value}(hi:ops[i]?=some oi)(hsel:∀(j:Nat) (o:Oper) cs b,ops[j]?=some o->o.op≠.select cs b)
  (hQ:∀c a w,Q (.panic c) (a.put oi.dst v) w->Q (.panic c) a w) (ch:List Nat) (hch:chnB md ops (s::ch)=true) (hne:ch≠[]) (hla:(s::ch).getLast?=some i) :
  ∀(fuel:Nat) (listed:Array Bool) (a:Act) (w:World),
   (∀j oj,ops[j]?=some oj->j≠i->listed.getD j true=false->(∀e∈oj.after,Region.binds md e=true->e.on≠i)->oi.apart ops oj=true) ->
   i∈Region.ready md ops listed->YieldsIf P ops S oi v a->S w->Shutd md ops listed ->
   wpAnyL P md ops Q S s fuel (listed.setIfInBounds i true) (a.put oi.dst v) w->wpAnyL P md ops Q S s (fuel+1) listed a w:=by
 intro fuel;induction fuel with
 | zero =>
  intro listed a w _ hr hy hS _ H;refine⟨fun h=>(by rw[h]at hr;cases hr),fun j hj=>?_⟩
  by_cases hji:j=i
  ·subst hji;exact hy.wpOp hi hS ⟨.inr hS,H⟩
  ·have:=ready_mono hj hji;rw[H.1]at this;cases this
 | succ fuel ih =>
  intro listed a w hfree hr hy hS hsh H;refine⟨fun h=>(by rw[h]at hr;cases hr),fun j hj=>?_⟩
  by_cases hji:j=i
  ·subst hji;exact hy.wpOp hi hS ⟨.inr hS,H⟩
  ·have h1:=H.2 j (ready_mono hj hji);obtain⟨hjun,oj,hoj,hall⟩:=mem_ready.1 hj;have hiun:listed.getD i false=false:=by
    have h0:=(mem_ready.1 hr).1;rcases Nat.lt_or_ge i listed.size with h'|h'
    ·simp[h']at h0 |-;exact h0
    ·simp[Array.getElem?_eq_none h']
   have hjs:j≠s:=by
    rintro rfl;cases ch with
    | nil=>exact hne rfl
    | cons y t =>
     rw[chnB,hoj,Bool.and_eq_true]at hch;obtain⟨e,he,h3⟩:=Array.any_eq_true.1 hch.1;rw[Bool.and_eq_true]at h3;have h5:=hall _ (Array.getElem_mem he) h3.1;rw[show (oj.after[e]).on=y by simpa using h3.2]at h5;rw[DW hsh t y i hch.2 (by rw[List.getLast?_cons_cons]at hla;exact hla) h5]at hiun;cases hiun
   have hnot:∀e∈oj.after,Region.binds md e=true->e.on≠i:=fun e he hb heq=>by
    have h1:=hall e he hb;rw[heq,hiun]at h1;cases h1
   have h2:=wpOp_putIf hoj (hfree j oj hoj hji hjun hnot) (fun cs b=>hsel i oi cs b hi) (fun cs b=>hsel j oj cs b hoj) hQ hy h1;have hfree':∀k ok,ops[k]?=some ok->k≠i->(listed.setIfInBounds j true).getD k true=false ->
     (∀e∈ok.after,Region.binds md e=true->e.on≠i)->oi.apart ops ok=true:=fun k ok hk hki hun hno=>by
    refine hfree k ok hk hki ?_ hno;by_cases hjk:j=k
    ·subst hjk;exact hjun
    ·rw[getD_set_ne true hjk]at hun;exact hun
   refine wpOp_mono (fun a' w' h3=>⟨h3.2.1,ih (listed.setIfInBounds j true) a' w' hfree' (ready_mono hr (Ne.symm hji)) h3.1 (h3.2.1.resolve_left hjs) (hsh.set hj) ?_⟩) h2;rw[Array.setIfInBounds_comm _ _ hji];exact h3.2.2
theorem Ab{i d:Nat}{oi:Oper}{v:Value}{fuel:Nat}{listed:Array Bool}{a:Act}{w:World}(ch:List Nat)(hi:ops[i]?=some oi)(hd:oi.dst=some d)
  (hs:Region.noSelect ops=true) (hf:Region.free md ops listed i=true) (hr:(Region.ready md ops listed).contains i=true)
  (hch:(chnB md ops (s::ch)&&(!ch.isEmpty&&(s::ch).getLast?==some i))=true) (hsh:shutB md ops listed=true)
  (hQ:∀c a w,Q (.panic c) (a.put oi.dst v) w->Q (.panic c) a w) (hy:YieldsIf P ops S oi v a) (hS:S w)
  (h:wpAnyL P md ops Q S s fuel (listed.setIfInBounds i true) (a.put (some d) v) w):wpAnyL P md ops Q S s (fuel+1) listed a w:=by
 rw[Bool.and_eq_true,Bool.and_eq_true]at hch;exact wpAnyL_first hi (Region.noSelect_spec hs) hQ ch hch.1 (by intro e;subst e;simp at hch) (by simpa using hch.2.2) fuel listed a w (Region.free_spec hi hf) (by simpa using hr) hy hS (Mz hsh) (by rw[hd];exact h)
def AllReadyL(P:Program)(md:Region.Mode)(ops:Array Oper)(Q:Exit->Act->World->Prop)(S:World->Prop)(s:Nat)(fuel:Nat)(listed:Array Bool)(a:Act)(w:World)(rs:List Nat):Prop :=
 ∀i∈rs,wpOp P ops Q i (fun a' w'=>(i=s\/S w')/\wpAnyL P md ops Q S s fuel (listed.setIfInBounds i true) a' w') a w
theorem AllReadyL.nil{fuel:Nat}{listed:Array Bool}{a:Act}{w:World}:AllReadyL P md ops Q S s fuel listed a w []:=fun _ h=>by cases h
theorem AllReadyL.cons{fuel:Nat}{listed:Array Bool}{a:Act}{w:World}{i:Nat}{o:Oper}{rs:List Nat}(ho:ops[i]?=some o)
  (h:∀K':Act->World->Prop,Shut (∀a w,(i=s\/S w)->((i=s\/S w)->wpAnyL P md ops Q S s fuel (listed.setIfInBounds i true) a w)->K' a w)->if Region.wanted o (yielded ops a.tmps)=true then Oper.wp P o a w K' Q else K' (a.put o.dst undef) w)
  (hs:AllReadyL P md ops Q S s fuel listed a w rs):AllReadyL P md ops Q S s fuel listed a w (i::rs):=fun j hj=>by
 rcases List.mem_cons.1 hj with rfl|hj
 ·exact wpOp_step ho (fun K' hK=>h K' (fun a w hS hW=>hK a w ⟨hS,hW hS⟩))
 ·exact hs j hj
theorem AllReadyL.consS{fuel:Nat}{listed:Array Bool}{a:Act}{w:World}{i:Nat}{o:Oper}{rs:List Nat}(ho:ops[i]?=some o)
  (h:∀K':Act->World->Prop,Shut (∀a w,S w->(S w->wpAnyL P md ops Q S s fuel (listed.setIfInBounds i true) a w)->K' a w)->if Region.wanted o (yielded ops a.tmps)=true then Oper.wp P o a w K' Q else K' (a.put o.dst undef) w)
  (hs:AllReadyL P md ops Q S s fuel listed a w rs):AllReadyL P md ops Q S s fuel listed a w (i::rs) :=
 AllReadyL.cons ho (fun K' hK=>h K' (fun a w hS hW=>hK.out a w (.inr hS) (fun _=>hW hS))) hs
theorem AllReadyL.consL{fuel:Nat}{listed:Array Bool}{a:Act}{w:World}{o:Oper}{rs:List Nat}(ho:ops[s]?=some o)
  (h:∀K':Act->World->Prop,Shut (∀a w,wpAnyL P md ops Q S s fuel (listed.setIfInBounds s true) a w->K' a w)->if Region.wanted o (yielded ops a.tmps)=true then Oper.wp P o a w K' Q else K' (a.put o.dst undef) w)
  (hs:AllReadyL P md ops Q S s fuel listed a w rs):AllReadyL P md ops Q S s fuel listed a w (s::rs) :=
 AllReadyL.cons ho (fun K' hK=>h K' (fun a w hW=>hK.out a w (.inl rfl) (fun _=>hW))) hs
theorem Ap{rs:List Nat}{fuel:Nat}{listed:Array Bool}{a:Act}{w:World}(hr:Region.ready md ops listed=rs)(hne:rs≠[])
  (h:AllReadyL P md ops Q S s fuel listed a w rs):wpAnyL P md ops Q S s (fuel+1) listed a w:=⟨fun h0=>absurd (hr▸h0) hne,hr▸h⟩
theorem B0{listed:Array Bool}{a:Act}{w:World}(hr:Region.ready md ops listed=[])(h:Q .normal a w) :
  ∀fuel,wpAnyL P md ops Q S s fuel listed a w
 | 0=>⟨hr,h⟩
 | _+1=>⟨fun _=>h,by rw[hr];simp⟩
theorem BH{id:Nat}{a:Act}{w:World}(s:Nat)(S:World->Prop)(hm:P.follows .mixedOrders=true)(hS:S w.drew)
  (h:S w.drew->wpAnyL P .any ops Q S s ops.size (Array.replicate ops.size false) a w.drew):(Code.region id ops true).wp P Q a w :=
 wp_region_any hm (FR _ _ _ _ (h hS))
end
end Go.Proofs.YtjojffepakclcaaGreatDoor
