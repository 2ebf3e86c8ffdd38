/- Part of the proof: contracts over the turned program. -/
import Derived.Test.YtjojffepakclcaaGreatDoorX34
set_option linter.unusedVariables false
set_option maxHeartbeats 4000000
open Go.Proofs.Tryz
namespace Go.Proofs.YtjojffepakclcaaGreatDoor
open Go Go.RowKit
def Co(w:World)(b:Nat)(v0 v1 v2 v3 v4 v5 v6:Value):Prop:=w.heap[b]?=some (.cells #[v0,v1,v2,v3,v4,v5,v6] 224 (0,0))
theorem Co.new(w:World)(v0 v1 v2 v3 v4 v5 v6:Value):Co (w.alloc (.cells #[v0,v1,v2,v3,v4,v5,v6] 224)) w.heap.size v0 v1 v2 v3 v4 v5 v6:=heap_alloc_new w _
theorem Co.lt{w:World}{b:Nat}{v0 v1 v2 v3 v4 v5 v6:Value}(h:Co w b v0 v1 v2 v3 v4 v5 v6):b<w.heap.size:=(Array.getElem?_eq_some_iff.1 h).1
theorem Co.kept{w w':World}{b:Nat}{v0 v1 v2 v3 v4 v5 v6:Value}{S:Nat->Prop}(h:Co w b v0 v1 v2 v3 v4 v5 v6)(hk:Kp S w w')(hS:¬S b):Co w' b v0 v1 v2 v3 v4 v5 v6:=by
 unfold Co;rw[hk.block b h.lt hS];exact h
theorem Co.fz{w:World}{b:Nat}{v0 v1 v2 v3 v4 v5 v6:Value}(h:Co w b v0 v1 v2 v3 v4 v5 v6)(j:Nat):w.frozen? ⟨b,j,none⟩=false:=by
 unfold World.frozen?;rw[show w.heap[(⟨b,j,none⟩:Addr).block]?=_ from h];simp
theorem Co.c0{w:World}{b:Nat}{v0 v1 v2 v3 v4 v5 v6:Value}(h:Co w b v0 v1 v2 v3 v4 v5 v6):w.cell? ⟨b,0,none⟩=some v0:=by rw[cell_of_row w b 0 _ 224 (0,0) h];rfl
theorem Co.c1{w:World}{b:Nat}{v0 v1 v2 v3 v4 v5 v6:Value}(h:Co w b v0 v1 v2 v3 v4 v5 v6):w.cell? ⟨b,1,none⟩=some v1:=by rw[cell_of_row w b 1 _ 224 (0,0) h];rfl
theorem Co.c2{w:World}{b:Nat}{v0 v1 v2 v3 v4 v5 v6:Value}(h:Co w b v0 v1 v2 v3 v4 v5 v6):w.cell? ⟨b,2,none⟩=some v2:=by rw[cell_of_row w b 2 _ 224 (0,0) h];rfl
theorem Co.c3{w:World}{b:Nat}{v0 v1 v2 v3 v4 v5 v6:Value}(h:Co w b v0 v1 v2 v3 v4 v5 v6):w.cell? ⟨b,3,none⟩=some v3:=by rw[cell_of_row w b 3 _ 224 (0,0) h];rfl
theorem Co.c4{w:World}{b:Nat}{v0 v1 v2 v3 v4 v5 v6:Value}(h:Co w b v0 v1 v2 v3 v4 v5 v6):w.cell? ⟨b,4,none⟩=some v4:=by rw[cell_of_row w b 4 _ 224 (0,0) h];rfl
theorem Co.c5{w:World}{b:Nat}{v0 v1 v2 v3 v4 v5 v6:Value}(h:Co w b v0 v1 v2 v3 v4 v5 v6):w.cell? ⟨b,5,none⟩=some v5:=by rw[cell_of_row w b 5 _ 224 (0,0) h];rfl
theorem Co.c6{w:World}{b:Nat}{v0 v1 v2 v3 v4 v5 v6:Value}(h:Co w b v0 v1 v2 v3 v4 v5 v6):w.cell? ⟨b,6,none⟩=some v6:=by rw[cell_of_row w b 6 _ 224 (0,0) h];rfl
theorem Co.set0{w:World}{b:Nat}{v0 v1 v2 v3 v4 v5 v6:Value}(h:Co w b v0 v1 v2 v3 v4 v5 v6)(x:Value):Co (w.setCell ⟨b,0,none⟩ x) b x v1 v2 v3 v4 v5 v6:=by
 unfold Co;rw[heap_setCell_same w b 0 _ 224 _ h];rfl
theorem Co.set1{w:World}{b:Nat}{v0 v1 v2 v3 v4 v5 v6:Value}(h:Co w b v0 v1 v2 v3 v4 v5 v6)(x:Value):Co (w.setCell ⟨b,1,none⟩ x) b v0 x v2 v3 v4 v5 v6:=by
 unfold Co;rw[heap_setCell_same w b 1 _ 224 _ h];rfl
theorem Co.set2{w:World}{b:Nat}{v0 v1 v2 v3 v4 v5 v6:Value}(h:Co w b v0 v1 v2 v3 v4 v5 v6)(x:Value):Co (w.setCell ⟨b,2,none⟩ x) b v0 v1 x v3 v4 v5 v6:=by
 unfold Co;rw[heap_setCell_same w b 2 _ 224 _ h];rfl
theorem Co.set3{w:World}{b:Nat}{v0 v1 v2 v3 v4 v5 v6:Value}(h:Co w b v0 v1 v2 v3 v4 v5 v6)(x:Value):Co (w.setCell ⟨b,3,none⟩ x) b v0 v1 v2 x v4 v5 v6:=by
 unfold Co;rw[heap_setCell_same w b 3 _ 224 _ h];rfl
theorem Co.set4{w:World}{b:Nat}{v0 v1 v2 v3 v4 v5 v6:Value}(h:Co w b v0 v1 v2 v3 v4 v5 v6)(x:Value):Co (w.setCell ⟨b,4,none⟩ x) b v0 v1 v2 v3 x v5 v6:=by
 unfold Co;rw[heap_setCell_same w b 4 _ 224 _ h];rfl
theorem Co.set5{w:World}{b:Nat}{v0 v1 v2 v3 v4 v5 v6:Value}(h:Co w b v0 v1 v2 v3 v4 v5 v6)(x:Value):Co (w.setCell ⟨b,5,none⟩ x) b v0 v1 v2 v3 v4 x v6:=by
 unfold Co;rw[heap_setCell_same w b 5 _ 224 _ h];rfl
theorem Co.set6{w:World}{b:Nat}{v0 v1 v2 v3 v4 v5 v6:Value}(h:Co w b v0 v1 v2 v3 v4 v5 v6)(x:Value):Co (w.setCell ⟨b,6,none⟩ x) b v0 v1 v2 v3 v4 v5 x:=by
 unfold Co;rw[heap_setCell_same w b 6 _ 224 _ h];rfl
theorem Co.put{w:World}{b:Nat}{v0 v1 v2 v3 v4 v5 v6:Value}(h:Co w b v0 v1 v2 v3 v4 v5 v6)(x0 x1 x2 x3 x4 x5 x6:Value):Co (((((((w.setCell ⟨b,0,none⟩ x0).setCell ⟨b,1,none⟩ x1).setCell ⟨b,2,none⟩ x2).setCell ⟨b,3,none⟩ x3).setCell ⟨b,4,none⟩ x4).setCell ⟨b,5,none⟩ x5).setCell ⟨b,6,none⟩ x6) b x0 x1 x2 x3 x4 x5 x6/\Kp (only b) w (((((((w.setCell ⟨b,0,none⟩ x0).setCell ⟨b,1,none⟩ x1).setCell ⟨b,2,none⟩ x2).setCell ⟨b,3,none⟩ x3).setCell ⟨b,4,none⟩ x4).setCell ⟨b,5,none⟩ x5).setCell ⟨b,6,none⟩ x6):=⟨(((((((h.set0 x0).set1 x1).set2 x2).set3 x3).set4 x4).set5 x5).set6 x6),(((((((Kp.setCell (S:=only b) _ _ _ _ rfl).then (Kp.setCell _ _ _ _ rfl)).then (Kp.setCell _ _ _ _ rfl)).then (Kp.setCell _ _ _ _ rfl)).then (Kp.setCell _ _ _ _ rfl)).then (Kp.setCell _ _ _ _ rfl)).then (Kp.setCell _ _ _ _ rfl))⟩
theorem Pb{w:World}{b:Nat}{z1 z2 z3:Int}{l:Bool}{a1 a2 a3:Option Addr}{n1 c1 n2 c2 n3 c3:Nat}(h:Co w b (.int .i64 z1) (.int .i64 z2) (.int .i64 z3) (.bool l) (.slice a1 n1 c1) (.slice a2 n2 c2) (.slice a3 n3 c3)):(loadVar 224 ⟨b,0,none⟩).run prog w=.ok (.agg #[.int .i64 z1,.int .i64 z2,.int .i64 z3,.bool l,.slice a1 n1 c1,.slice a2 n2 c2,.slice a3 n3 c3]) w:=by
 have d0:=h.c0;have d1:=h.c1;have d2:=h.c2;have d3:=h.c3;have d4:=h.c4;have d5:=h.c5;have d6:=h.c6;go_simp
theorem DC{fn:Func}{p u t:Tmp}(h:fn.results=#[.cell p 224,.tmp u,.tmp t])(tmps:Array Value)(b:Nat)(W:World)(vu vt:Value){z1 z2 z3:Int}{l:Bool}{a1 a2 a3:Option Addr}{n1 c1 n2 c2 n3 c3:Nat}(hp:tmps.getD p undef=.pointer (some ⟨b,0,none⟩))(hu:tmps.getD u undef=vu)(ht:tmps.getD t undef=vt)(hV:Co W b (.int .i64 z1) (.int .i64 z2) (.int .i64 z3) (.bool l) (.slice a1 n1 c1) (.slice a2 n2 c2) (.slice a3 n3 c3)) :
  (results fn tmps).run prog W=.ok (.tuple #[.agg #[.int .i64 z1,.int .i64 z2,.int .i64 z3,.bool l,.slice a1 n1 c1,.slice a2 n2 c2,.slice a3 n3 c3],vu,vt]) W:=by
 have hp':tmps[p]?.getD undef=.pointer (some ⟨b,0,none⟩):=by simpa using hp
 have hu':tmps[u]?.getD undef=vu:=by simpa using hu
 have ht':tmps[t]?.getD undef=vt:=by simpa using ht
 simp only[results,h];simp[Result.andThen,hp',hu',ht',asAddr,Pb hV]
set_option maxRecDepth 100000 in
theorem FI{w:World}{ops:Array Oper}{o:Oper}{a:Act}{K:Act->World->Prop}{Q:Exit->Act->World->Prop}{E:Prop}(hgd:o.guard=none)(hd:o.dst=none)(p x:Operand)(ho:o.op=.store 224 p x)(b:Nat)(hp:a.eval p=.pointer (some ⟨b,0,none⟩)){v0 v1 v2 v3 v4 v5 v6:Value}{z1 z2 z3:Int}{l:Bool}{a1 a2 a3:Option Addr}{n1 c1 n2 c2 n3 c3:Nat}
  (hx:a.eval x=.agg #[.int .i64 z1,.int .i64 z2,.int .i64 z3,.bool l,.slice a1 n1 c1,.slice a2 n2 c2,.slice a3 n3 c3]) (hN:Co w b v0 v1 v2 v3 v4 v5 v6)
  (h:∀W',Co W' b (.int .i64 z1) (.int .i64 z2) (.int .i64 z3) (.bool l) (.slice a1 n1 c1) (.slice a2 n2 c2) (.slice a3 n3 c3)->Kp (only b) w W'->K a W') :
  if Region.wanted o (yielded ops a.tmps)=true then Oper.wp prog o a w K Q else E:=by
 have hw:Region.wanted o (yielded ops a.tmps)=true:=by simp[Region.wanted,hgd]
 rw[if_pos hw];have hpt:=hN.put (.int .i64 z1) (.int .i64 z2) (.int .i64 z3) (.bool l) (.slice a1 n1 c1) (.slice a2 n2 c2) (.slice a3 n3 c3);have h1:=h _ hpt.1 hpt.2;have d0:=hN.c0;have f0:=hN.fz 0;have d1:=hN.c1;have f1:=hN.fz 1;have d2:=hN.c2;have f2:=hN.fz 2;have d3:=hN.c3;have f3:=hN.fz 3;have d4:=hN.c4;have f4:=hN.fz 4;have d5:=hN.c5;have f5:=hN.fz 5;have d6:=hN.c6;have f6:=hN.fz 6;clear hpt h;obtain⟨dst,op,type,pos,after,guard⟩:=o;dsimp only at hgd hd ho;subst hgd hd ho
 unfold Oper.wp execOp;dsimp only;simp only[hp,hx];go_simp;first|exact h1|(simp only[Act.put]at h1 |-;exact h1)
theorem Cr{w:World}{ops:Array Oper}{rest:List Oper}{o:Oper}{a:Act}{Q:Exit->Act->World->Prop}(hgd:o.guard=none)(hd:o.dst=none)(p x:Operand)(ho:o.op=.store 224 p x)(b:Nat)(hp:a.eval p=.pointer (some ⟨b,0,none⟩)){v0 v1 v2 v3 v4 v5 v6:Value}{z1 z2 z3:Int}{l:Bool}{a1 a2 a3:Option Addr}{n1 c1 n2 c2 n3 c3:Nat}
  (hx:a.eval x=.agg #[.int .i64 z1,.int .i64 z2,.int .i64 z3,.bool l,.slice a1 n1 c1,.slice a2 n2 c2,.slice a3 n3 c3]) (hN:Co w b v0 v1 v2 v3 v4 v5 v6)
  (h:∀W',Co W' b (.int .i64 z1) (.int .i64 z2) (.int .i64 z3) (.bool l) (.slice a1 n1 c1) (.slice a2 n2 c2) (.slice a3 n3 c3)->Kp (only b) w W'->wpList prog ops Q rest a W'):wpList prog ops Q (o::rest) a w:=by
 refine wpList_plain hgd fun K hK=>?_;have:=FI (ops:=#[]) (K:=K) (Q:=Q) (E:=True) hgd hd p x ho b hp hx hN (fun W' h1 h2=>hK _ _ (h W' h1 h2));have hw:Region.wanted o (yielded #[] a.tmps)=true:=by simp[Region.wanted,hgd]
 rw[if_pos hw]at this;exact this
end Go.Proofs.YtjojffepakclcaaGreatDoor
