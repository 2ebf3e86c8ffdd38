/- Part of the proof: contracts over the turned program. -/
import Derived.Deep.RegionHeld3
import Derived.Test.YtgcgacjhkhjhmaaGreatDoorX4
set_option linter.unusedVariables false
set_option maxHeartbeats 4000000
open Go.Proofs.Tryz
namespace Go.Proofs.YtgcgacjhkhjhmaaGreatDoor
open Go Go.RowKit
theorem Aa{P:Program}{md:Region.Mode}{ops:Array Oper}{Q:Exit->Act->World->Prop}{S:World->Prop}{i d:Nat}{oi:Oper}{v:Value}{fuel:Nat}{listed:Array Bool}{a:Act}{w:World}(hi:ops[i]?=some oi)(hd:oi.dst=some d)
  (hs:Region.noSelect ops=true) (hf:Region.free md ops listed i=true) (hr:(Region.ready md ops listed).contains i=true)
  (hQ:∀c a w,Q (.panic c) (a.put oi.dst v) w->Q (.panic c) a w) (hy:YieldsIf P ops S oi v a) (hS:S w)
  (h:wpAnyH P md ops Q S fuel (listed.setIfInBounds i true) (a.put (some d) v) w):wpAnyH P md ops Q S (fuel+1) listed a w :=
 wpAnyH_take hi hs hf hr hQ hy hS (by rw[hd];exact h)
theorem Hh{B:Nat}{w:World}{y:Value}{n:Nd}(h:Nv B w y n):∃a1 c1 a2 c2 a3 c3,y=.agg #[.bool n.leaf,.slice a1 n.ps.length c1,.slice a2 n.ks.length c2,.slice a3 n.kd.length c3]:=by
 obtain⟨⟨pv,kv,dv,rfl,hP,hS,hD⟩,_⟩:=h;obtain⟨a1,c1,rfl,_⟩:=hP;obtain⟨a2,c2,rfl,_⟩:=hS;obtain⟨a3,c3,rfl,_⟩:=hD;exact⟨a1,c1,a2,c2,a3,c3,rfl⟩
theorem P6{w W:World}{x:Value}{n:Nd}(h:Nv w.heap.size w x n)(hk:Kp none' w W):Nv W.heap.size W x n:=(h.keptN hk).more hk.size
theorem Aw{w W:World}{b g:Nat}{l:Bool}{pv kv dv:Value}(h:Nb w b l pv kv dv)(hne:b≠g)(hk:Kp (only g) w W):Nb W b l pv kv dv:=h.kept hk hne
theorem Ax{w w1 W:World}{g:Nat}(h:Kp none' w w1)(hg:w.heap.size<=g)(hk:Kp (only g) w1 W):Kp none' w W:=h.trans hk (fun _ _ h=>h) (fun k hk' e=>by unfold only at e;omega)
set_option maxRecDepth 100000 in
theorem Bh{w:World}{ops:Array Oper}{o:Oper}{a:Act}{K:Act->World->Prop}{Q:Exit->Act->World->Prop}{E:Prop}{d:Nat}(hgd:o.guard=none)(hd:o.dst=some d)(ho:o.op=.alloc 35)
  (h:∀W' g,Nb W' g false (.slice none 0 0) (.slice none 0 0) (.slice none 0 0)->Kp none' w W'->w.heap.size<=g->K (a.put (some d) (.pointer (some ⟨g,0,none⟩))) W') :
  if Region.wanted o (yielded ops a.tmps)=true then Oper.wp prog o a w K Q else E:=by
 have hw:Region.wanted o (yielded ops a.tmps)=true:=by simp[Region.wanted,hgd]
 rw[if_pos hw];have h1:=h _ w.heap.size (Nb.new w false (.slice none 0 0) (.slice none 0 0) (.slice none 0 0)) (Kp.alloc _ _ _) (Nat.le_refl _);clear h;obtain⟨dst,op,type,pos,after,guard⟩:=o;dsimp only at hgd hd ho;subst hgd hd ho;unfold Oper.wp execOp;dsimp only;go_simp;first|exact h1|(simp only[Act.put]at h1 |-;exact h1)
set_option maxRecDepth 100000 in
theorem Ah{w:World}{ops:Array Oper}{o:Oper}{a:Act}{K:Act->World->Prop}{Q:Exit->Act->World->Prop}{E:Prop}(hgd:o.guard=none)(hd:o.dst=none)(p x:Operand)(ho:o.op=.store 35 p x)(g:Nat)(hp:a.eval p=.pointer (some ⟨g,0,none⟩)){l l':Bool}{pv kv dv:Value}{a1 a2 a3:Option Addr}{n1 c1 n2 c2 n3 c3:Nat}
  (hx:a.eval x=.agg #[.bool l',.slice a1 n1 c1,.slice a2 n2 c2,.slice a3 n3 c3]) (hN:Nb w g l pv kv dv)
  (h:∀W',Nb W' g l' (.slice a1 n1 c1) (.slice a2 n2 c2) (.slice a3 n3 c3)->Kp (only g) w W'->K a W') :
  if Region.wanted o (yielded ops a.tmps)=true then Oper.wp prog o a w K Q else E:=by
 have hw:Region.wanted o (yielded ops a.tmps)=true:=by simp[Region.wanted,hgd]
 rw[if_pos hw];have hpt:=hN.put l' (.slice a1 n1 c1) (.slice a2 n2 c2) (.slice a3 n3 c3);have h1:=h _ hpt.1 hpt.2;have d0:=hN.c0;have d1:=hN.c1;have d2:=hN.c2;have d3:=hN.c3;have f0:=hN.fz 0;have f1:=hN.fz 1;have f2:=hN.fz 2;have f3:=hN.fz 3;clear hpt h;obtain⟨dst,op,type,pos,after,guard⟩:=o;dsimp only at hgd hd ho;subst hgd hd ho;unfold Oper.wp execOp;dsimp only;simp only[hp,hx];go_simp;first|exact h1|(simp only[Act.put]at h1 |-;exact h1)
end Go.Proofs.YtgcgacjhkhjhmaaGreatDoor
