/- Part of the proof: contracts over the turned program. -/
import Derived.Test.YtgcgacjhkhjhmaaGreatDoorX33
import Derived.Test.YtgcgacjhkhjhmaaGreatDoorX14
import Derived.Test.YtgcgacjhkhjhmaaGreatDoorX22
set_option linter.unusedVariables false
set_option maxHeartbeats 4000000
open Go.Proofs.Tryz
namespace Go.Proofs.YtgcgacjhkhjhmaaGreatDoor
open Go Go.RowKit
def Co(w:World)(b:Nat)(v0 v1 v2 v3 v4 v5 v6:Value):Prop:=w.heap[b]?=some (.cells #[v0,v1,v2,v3,v4,v5,v6] 216 (0,0))
theorem Co.new(w:World)(v0 v1 v2 v3 v4 v5 v6:Value):Co (w.alloc (.cells #[v0,v1,v2,v3,v4,v5,v6] 216)) w.heap.size v0 v1 v2 v3 v4 v5 v6:=heap_alloc_new w _
theorem Co.lt{w:World}{b:Nat}{v0 v1 v2 v3 v4 v5 v6:Value}(h:Co w b v0 v1 v2 v3 v4 v5 v6):b<w.heap.size:=(Array.getElem?_eq_some_iff.1 h).1
theorem Co.kept{w w':World}{b:Nat}{v0 v1 v2 v3 v4 v5 v6:Value}{S:Nat->Prop}(h:Co w b v0 v1 v2 v3 v4 v5 v6)(hk:Kp S w w')(hS:¬S b):Co w' b v0 v1 v2 v3 v4 v5 v6:=by
 unfold Co;rw[hk.block b h.lt hS];exact h
theorem Co.fz{w:World}{b:Nat}{v0 v1 v2 v3 v4 v5 v6:Value}(h:Co w b v0 v1 v2 v3 v4 v5 v6)(j:Nat):w.frozen? ⟨b,j,none⟩=false:=by
 unfold World.frozen?;rw[show w.heap[(⟨b,j,none⟩:Addr).block]?=_ from h];simp
theorem Co.c0{w:World}{b:Nat}{v0 v1 v2 v3 v4 v5 v6:Value}(h:Co w b v0 v1 v2 v3 v4 v5 v6):w.cell? ⟨b,0,none⟩=some v0:=by rw[cell_of_row w b 0 _ 216 (0,0) h];rfl
theorem Co.c1{w:World}{b:Nat}{v0 v1 v2 v3 v4 v5 v6:Value}(h:Co w b v0 v1 v2 v3 v4 v5 v6):w.cell? ⟨b,1,none⟩=some v1:=by rw[cell_of_row w b 1 _ 216 (0,0) h];rfl
theorem Co.c2{w:World}{b:Nat}{v0 v1 v2 v3 v4 v5 v6:Value}(h:Co w b v0 v1 v2 v3 v4 v5 v6):w.cell? ⟨b,2,none⟩=some v2:=by rw[cell_of_row w b 2 _ 216 (0,0) h];rfl
theorem Co.c3{w:World}{b:Nat}{v0 v1 v2 v3 v4 v5 v6:Value}(h:Co w b v0 v1 v2 v3 v4 v5 v6):w.cell? ⟨b,3,none⟩=some v3:=by rw[cell_of_row w b 3 _ 216 (0,0) h];rfl
theorem Co.c4{w:World}{b:Nat}{v0 v1 v2 v3 v4 v5 v6:Value}(h:Co w b v0 v1 v2 v3 v4 v5 v6):w.cell? ⟨b,4,none⟩=some v4:=by rw[cell_of_row w b 4 _ 216 (0,0) h];rfl
theorem Co.c5{w:World}{b:Nat}{v0 v1 v2 v3 v4 v5 v6:Value}(h:Co w b v0 v1 v2 v3 v4 v5 v6):w.cell? ⟨b,5,none⟩=some v5:=by rw[cell_of_row w b 5 _ 216 (0,0) h];rfl
theorem Co.c6{w:World}{b:Nat}{v0 v1 v2 v3 v4 v5 v6:Value}(h:Co w b v0 v1 v2 v3 v4 v5 v6):w.cell? ⟨b,6,none⟩=some v6:=by rw[cell_of_row w b 6 _ 216 (0,0) h];rfl
theorem Co.set0{w:World}{b:Nat}{v0 v1 v2 v3 v4 v5 v6:Value}(h:Co w b v0 v1 v2 v3 v4 v5 v6)(x:Value):Co (w.setCell ⟨b,0,none⟩ x) b x v1 v2 v3 v4 v5 v6:=by
 unfold Co;rw[heap_setCell_same w b 0 _ 216 _ h];rfl
theorem Co.set1{w:World}{b:Nat}{v0 v1 v2 v3 v4 v5 v6:Value}(h:Co w b v0 v1 v2 v3 v4 v5 v6)(x:Value):Co (w.setCell ⟨b,1,none⟩ x) b v0 x v2 v3 v4 v5 v6:=by
 unfold Co;rw[heap_setCell_same w b 1 _ 216 _ h];rfl
theorem Co.set2{w:World}{b:Nat}{v0 v1 v2 v3 v4 v5 v6:Value}(h:Co w b v0 v1 v2 v3 v4 v5 v6)(x:Value):Co (w.setCell ⟨b,2,none⟩ x) b v0 v1 x v3 v4 v5 v6:=by
 unfold Co;rw[heap_setCell_same w b 2 _ 216 _ h];rfl
theorem Co.set3{w:World}{b:Nat}{v0 v1 v2 v3 v4 v5 v6:Value}(h:Co w b v0 v1 v2 v3 v4 v5 v6)(x:Value):Co (w.setCell ⟨b,3,none⟩ x) b v0 v1 v2 x v4 v5 v6:=by
 unfold Co;rw[heap_setCell_same w b 3 _ 216 _ h];rfl
theorem Co.set4{w:World}{b:Nat}{v0 v1 v2 v3 v4 v5 v6:Value}(h:Co w b v0 v1 v2 v3 v4 v5 v6)(x:Value):Co (w.setCell ⟨b,4,none⟩ x) b v0 v1 v2 v3 x v5 v6:=by
 unfold Co;rw[heap_setCell_same w b 4 _ 216 _ h];rfl
theorem Co.set5{w:World}{b:Nat}{v0 v1 v2 v3 v4 v5 v6:Value}(h:Co w b v0 v1 v2 v3 v4 v5 v6)(x:Value):Co (w.setCell ⟨b,5,none⟩ x) b v0 v1 v2 v3 v4 x v6:=by
 unfold Co;rw[heap_setCell_same w b 5 _ 216 _ h];rfl
theorem Co.set6{w:World}{b:Nat}{v0 v1 v2 v3 v4 v5 v6:Value}(h:Co w b v0 v1 v2 v3 v4 v5 v6)(x:Value):Co (w.setCell ⟨b,6,none⟩ x) b v0 v1 v2 v3 v4 v5 x:=by
 unfold Co;rw[heap_setCell_same w b 6 _ 216 _ h];rfl
theorem Co.put{w:World}{b:Nat}{v0 v1 v2 v3 v4 v5 v6:Value}(h:Co w b v0 v1 v2 v3 v4 v5 v6)(x0 x1 x2 x3 x4 x5 x6:Value):Co (((((((w.setCell ⟨b,0,none⟩ x0).setCell ⟨b,1,none⟩ x1).setCell ⟨b,2,none⟩ x2).setCell ⟨b,3,none⟩ x3).setCell ⟨b,4,none⟩ x4).setCell ⟨b,5,none⟩ x5).setCell ⟨b,6,none⟩ x6) b x0 x1 x2 x3 x4 x5 x6/\Kp (only b) w (((((((w.setCell ⟨b,0,none⟩ x0).setCell ⟨b,1,none⟩ x1).setCell ⟨b,2,none⟩ x2).setCell ⟨b,3,none⟩ x3).setCell ⟨b,4,none⟩ x4).setCell ⟨b,5,none⟩ x5).setCell ⟨b,6,none⟩ x6):=⟨(((((((h.set0 x0).set1 x1).set2 x2).set3 x3).set4 x4).set5 x5).set6 x6),(((((((Kp.setCell (S:=only b) _ _ _ _ rfl).then (Kp.setCell _ _ _ _ rfl)).then (Kp.setCell _ _ _ _ rfl)).then (Kp.setCell _ _ _ _ rfl)).then (Kp.setCell _ _ _ _ rfl)).then (Kp.setCell _ _ _ _ rfl)).then (Kp.setCell _ _ _ _ rfl))⟩
theorem O7{w:World}{b:Nat}{z1 z2 z3:Int}{l:Bool}{a1 a2 a3:Option Addr}{n1 c1 n2 c2 n3 c3:Nat}(h:Co w b (.int .i64 z1) (.int .i64 z2) (.int .i64 z3) (.bool l) (.slice a1 n1 c1) (.slice a2 n2 c2) (.slice a3 n3 c3)):(loadVar 216 ⟨b,0,none⟩).run prog w=.ok (.agg #[.int .i64 z1,.int .i64 z2,.int .i64 z3,.bool l,.slice a1 n1 c1,.slice a2 n2 c2,.slice a3 n3 c3]) w:=by
 have d0:=h.c0;have d1:=h.c1;have d2:=h.c2;have d3:=h.c3;have d4:=h.c4;have d5:=h.c5;have d6:=h.c6;go_simp
theorem Ds{fn:Func}{p u t:Tmp}(h:fn.results=#[.cell p 216,.tmp u,.tmp t])(tmps:Array Value)(b:Nat)(W:World)(vu vt:Value){z1 z2 z3:Int}{l:Bool}{a1 a2 a3:Option Addr}{n1 c1 n2 c2 n3 c3:Nat}(hp:tmps.getD p undef=.pointer (some ⟨b,0,none⟩))(hu:tmps.getD u undef=vu)(ht:tmps.getD t undef=vt)(hV:Co W b (.int .i64 z1) (.int .i64 z2) (.int .i64 z3) (.bool l) (.slice a1 n1 c1) (.slice a2 n2 c2) (.slice a3 n3 c3)) :
  (results fn tmps).run prog W=.ok (.tuple #[.agg #[.int .i64 z1,.int .i64 z2,.int .i64 z3,.bool l,.slice a1 n1 c1,.slice a2 n2 c2,.slice a3 n3 c3],vu,vt]) W:=by
 have hp':tmps[p]?.getD undef=.pointer (some ⟨b,0,none⟩):=by simpa using hp
 have hu':tmps[u]?.getD undef=vu:=by simpa using hu
 have ht':tmps[t]?.getD undef=vt:=by simpa using ht
 simp only[results,h];simp[Result.andThen,hp',hu',ht',asAddr,O7 hV]
set_option maxRecDepth 100000 in
theorem Fv{w:World}{ops:Array Oper}{o:Oper}{a:Act}{K:Act->World->Prop}{Q:Exit->Act->World->Prop}{E:Prop}(hgd:o.guard=none)(hd:o.dst=none)(p x:Operand)(ho:o.op=.store 216 p x)(b:Nat)(hp:a.eval p=.pointer (some ⟨b,0,none⟩)){v0 v1 v2 v3 v4 v5 v6:Value}{z1 z2 z3:Int}{l:Bool}{a1 a2 a3:Option Addr}{n1 c1 n2 c2 n3 c3:Nat}
  (hx:a.eval x=.agg #[.int .i64 z1,.int .i64 z2,.int .i64 z3,.bool l,.slice a1 n1 c1,.slice a2 n2 c2,.slice a3 n3 c3]) (hN:Co w b v0 v1 v2 v3 v4 v5 v6)
  (h:∀W',Co W' b (.int .i64 z1) (.int .i64 z2) (.int .i64 z3) (.bool l) (.slice a1 n1 c1) (.slice a2 n2 c2) (.slice a3 n3 c3)->Kp (only b) w W'->K a W') :
  if Region.wanted o (yielded ops a.tmps)=true then Oper.wp prog o a w K Q else E:=by
 have hw:Region.wanted o (yielded ops a.tmps)=true:=by simp[Region.wanted,hgd]
 rw[if_pos hw];have hpt:=hN.put (.int .i64 z1) (.int .i64 z2) (.int .i64 z3) (.bool l) (.slice a1 n1 c1) (.slice a2 n2 c2) (.slice a3 n3 c3);have h1:=h _ hpt.1 hpt.2;have d0:=hN.c0;have f0:=hN.fz 0;have d1:=hN.c1;have f1:=hN.fz 1;have d2:=hN.c2;have f2:=hN.fz 2;have d3:=hN.c3;have f3:=hN.fz 3;have d4:=hN.c4;have f4:=hN.fz 4;have d5:=hN.c5;have f5:=hN.fz 5;have d6:=hN.c6;have f6:=hN.fz 6;clear hpt h;obtain⟨dst,op,type,pos,after,guard⟩:=o;dsimp only at hgd hd ho;subst hgd hd ho
 unfold Oper.wp execOp;dsimp only;simp only[hp,hx];go_simp;first|exact h1|(simp only[Act.put]at h1 |-;exact h1)
theorem Ck{w:World}{ops:Array Oper}{rest:List Oper}{o:Oper}{a:Act}{Q:Exit->Act->World->Prop}(hgd:o.guard=none)(hd:o.dst=none)(p x:Operand)(ho:o.op=.store 216 p x)(b:Nat)(hp:a.eval p=.pointer (some ⟨b,0,none⟩)){v0 v1 v2 v3 v4 v5 v6:Value}{z1 z2 z3:Int}{l:Bool}{a1 a2 a3:Option Addr}{n1 c1 n2 c2 n3 c3:Nat}
  (hx:a.eval x=.agg #[.int .i64 z1,.int .i64 z2,.int .i64 z3,.bool l,.slice a1 n1 c1,.slice a2 n2 c2,.slice a3 n3 c3]) (hN:Co w b v0 v1 v2 v3 v4 v5 v6)
  (h:∀W',Co W' b (.int .i64 z1) (.int .i64 z2) (.int .i64 z3) (.bool l) (.slice a1 n1 c1) (.slice a2 n2 c2) (.slice a3 n3 c3)->Kp (only b) w W'->wpList prog ops Q rest a W'):wpList prog ops Q (o::rest) a w:=by
 refine wpList_plain hgd fun K hK=>?_;have:=Fv (ops:=#[]) (K:=K) (Q:=Q) (E:=True) hgd hd p x ho b hp hx hN (fun W' h1 h2=>hK _ _ (h W' h1 h2));have hw:Region.wanted o (yielded #[] a.tmps)=true:=by simp[Region.wanted,hgd]
 rw[if_pos hw]at this;exact this
theorem K8(w:World)(l l':Bool)(p k d p' k' d':Value):Nb ((w.alloc (.cells #[.bool l,p,k,d] 35)).alloc (.cells #[.bool l',p',k',d'] 35)).drew w.heap.size l p k d/\Nb ((w.alloc (.cells #[.bool l,p,k,d] 35)).alloc (.cells #[.bool l',p',k',d'] 35)).drew (w.heap.size+1) l' p' k' d'/\Kp none' w ((w.alloc (.cells #[.bool l,p,k,d] 35)).alloc (.cells #[.bool l',p',k',d'] 35)).drew:=by
 refine⟨((Nb.new w l p k d).kept (Kp.alloc none' _ _) (fun h=>h)).kept (Kp.drew none' _) (fun h=>h),?_,((Kp.alloc _ _ _).thenN (Kp.alloc _ _ _)).thenN (Kp.drew _ _)⟩;have n3:=(Nb.new (w.alloc (.cells #[.bool l,p,k,d] 35)) l' p' k' d').kept (Kp.drew none' _) (fun h=>h);rw[show (w.alloc (.cells #[.bool l,p,k,d] 35)).heap.size=w.heap.size+1 by simp]at n3;exact n3
def CoupV (C : Cg) (kid bt : Nat) (n nab : Nd) (o' : Nat → Nat) (w' : World) (e : Ending) : Prop :=
  if C.coE (coZ kid bt nab) = 0 then
    (if (C.coN (coZ kid bt nab)).leaf = n.leaf then ∃ y : SpV, y.pg = nab.kd.getD bt 0 ∧ y.kid = 0 ∧ y.was = 0 ∧ WrIs w' o' y (y.pg, C.coJ kid bt n nab) ∧ e = .returned (.tuple #[.agg #[.int .i64 y.pg, .int .i64 (nab.kd.getD (bt + 1) 0), .int .i64 (bt : Int), .bool y.l, .slice y.a1 y.n1 y.c1, .slice y.a2 y.n2 y.c2, .slice y.a3 y.n3 y.c3], .bool true, .int .i64 0])
     else e = .returned (.tuple #[.agg #[.int .i64 0, .int .i64 0, .int .i64 0, .bool false, .slice none 0 0, .slice none 0 0, .slice none 0 0], .bool false, .int .i64 0]))
  else e = .returned (.tuple #[.agg #[.int .i64 0, .int .i64 0, .int .i64 0, .bool false, .slice none 0 0, .slice none 0 0, .slice none 0 0], .bool false, .int .i64 (C.coE (coZ kid bt nab))])
def EV(b r c mm:Nat)(o:Nat->Nat)(V:Nat->Prop)(C:Cg)(wv tv sv:Value)(xs:List SpV)(kid bt:Nat)(n nab:Nd)(w w':World)(e:Ending):Prop:=∃o':Nat->Nat,(∀k,k<w.heap.size->o' k=o k)/\Cm w' b r o' (C.co (coZ kid bt nab)) wv tv sv xs/\Wk w' r V c mm C.S/\Kp (only b) w w'/\CoupV C kid bt n nab o' w' e
set_option maxRecDepth 100000 in
theorem JM (b r c mm g m cap i rb base : Nat) (o : Nat → Nat) (V : Nat → Prop) (C : Cg) (wv tv sv : Value) (xs xa : List SpV) (s x : SpV) (n nab : Nd) (kid bt : Nat) (w : World) (hC : Cm w b r o C wv tv sv xs) (hWk : Wk w r V c mm C.S) (hV : ∀ k, V k → o k = 5 ∧ k < w.heap.size) (hk : C.k ≤ 90000)
    (hN : Nv w.heap.size w s.node n) (hso : ∀ k, s.own k → k < w.heap.size ∧ (o k = 0 ∨ 6 ≤ o k)) (hA : AbS w o g m cap i rb base xa x nab) (hkid : x.kid = (kid : Int)) (hbt : bt < nab.ks.length) (hks : nab.kd.length = nab.ks.length + 1) (hn6 : nab.kd.length ≤ 100000) (hp : n.ps.length ≤ 1000000) (hkk : n.ks.length ≤ 1000000) (hd : n.kd.length ≤ 1000000) (hnn : (C.coN (coZ kid bt nab)).ps.length ≤ 1000000 ∧ (C.coN (coZ kid bt nab)).ks.length ≤ 1000000 ∧ (C.coN (coZ kid bt nab)).kd.length ≤ 1000000) :
    Calls prog 155 #[.pointer (some ⟨b, 0, none⟩), .agg #[.int .i64 s.pg, .bool s.l, .slice s.a1 s.n1 s.c1, .slice s.a2 s.n2 s.c2, .slice s.a3 s.n3 s.c3, .int .i64 s.kid, .int .i64 s.was], .pointer (some ⟨g, i * 7, none⟩), .int .i64 (bt : Int)] w fun e w' => EV b r c mm o V C wv tv sv xs kid bt n nab w w' e := by
  have hK1 : Kp none' w (w.alloc (.cells #[.int .i64 s.pg, .bool s.l, .slice s.a1 s.n1 s.c1, .slice s.a2 s.n2 s.c2, .slice s.a3 s.n3 s.c3, .int .i64 s.kid, .int .i64 s.was] 85)) := Kp.alloc _ _ _
  have hKA : Kp none' w ((w.alloc (.cells #[.int .i64 s.pg, .bool s.l, .slice s.a1 s.n1 s.c1, .slice s.a2 s.n2 s.c2, .slice s.a3 s.n3 s.c3, .int .i64 s.kid, .int .i64 s.was] 85)).alloc (.cells #[.int .i64 0, .int .i64 0, .int .i64 0, .bool false, .slice none 0 0, .slice none 0 0, .slice none 0 0] 216)) := hK1.thenN (Kp.alloc _ _ _)
  have cell := fun j u hj => (Kp.alloc none' _ (.cells #[.int .i64 0, .int .i64 0, .int .i64 0, .bool false, .slice none 0 0, .slice none 0 0, .slice none 0 0] 216)).cell (Am w #[.int .i64 s.pg, .bool s.l, .slice s.a1 s.n1 s.c1, .slice s.a2 s.n2 s.c2, .slice s.a3 s.n3 s.c3, .int .i64 s.kid, .int .i64 s.was] 85 j u hj) (fun h => h)
  have q1 := cell 1 _ rfl
  have q2 : ((w.alloc (.cells #[.int .i64 s.pg, .bool s.l, .slice s.a1 s.n1 s.c1, .slice s.a2 s.n2 s.c2, .slice s.a3 s.n3 s.c3, .int .i64 s.kid, .int .i64 s.was] 85)).alloc (.cells #[.int .i64 0, .int .i64 0, .int .i64 0, .bool false, .slice none 0 0, .slice none 0 0, .slice none 0 0] 216)).cell? ⟨w.heap.size, 1 + 1, none⟩ = _ := cell 2 _ rfl
  have q3 : ((w.alloc (.cells #[.int .i64 s.pg, .bool s.l, .slice s.a1 s.n1 s.c1, .slice s.a2 s.n2 s.c2, .slice s.a3 s.n3 s.c3, .int .i64 s.kid, .int .i64 s.was] 85)).alloc (.cells #[.int .i64 0, .int .i64 0, .int .i64 0, .bool false, .slice none 0 0, .slice none 0 0, .slice none 0 0] 216)).cell? ⟨w.heap.size, 1 + 2, none⟩ = _ := cell 3 _ rfl
  have q4 : ((w.alloc (.cells #[.int .i64 s.pg, .bool s.l, .slice s.a1 s.n1 s.c1, .slice s.a2 s.n2 s.c2, .slice s.a3 s.n3 s.c3, .int .i64 s.kid, .int .i64 s.was] 85)).alloc (.cells #[.int .i64 0, .int .i64 0, .int .i64 0, .bool false, .slice none 0 0, .slice none 0 0, .slice none 0 0] 216)).cell? ⟨w.heap.size, 1 + 3, none⟩ = _ := cell 4 _ rfl
  have hco := Co.new (w.alloc (.cells #[.int .i64 s.pg, .bool s.l, .slice s.a1 s.n1 s.c1, .slice s.a2 s.n2 s.c2, .slice s.a3 s.n3 s.c3, .int .i64 s.kid, .int .i64 s.was] 85)) (.int .i64 0) (.int .i64 0) (.int .i64 0) (.bool false) (.slice none 0 0) (.slice none 0 0) (.slice none 0 0)
  rw [show (w.alloc (.cells #[.int .i64 s.pg, .bool s.l, .slice s.a1 s.n1 s.c1, .slice s.a2 s.n2 s.c2, .slice s.a3 s.n3 s.c3, .int .i64 s.kid, .int .i64 s.was] 85)).heap.size = w.heap.size + 1 by simp] at hco
  have hold : ∀ k, k < w.heap.size → lab o w.heap.size 9 k = o k := fun k hk => Ad hk
  have HOG : Hid (lab o w.heap.size 9 w.heap.size = 9 ∧ lab o w.heap.size 9 (w.heap.size + 1) = 9) := ⟨Ap (Nat.le_refl _), Ap (by omega)⟩
  have HV1 : Hid (∀ k, V k → lab o w.heap.size 9 k = 5) := fun k e => by rw [hold k (hV k e).2]; exact (hV k e).1
  have HOLD := hide hold
  have HSO : Hid (∀ k, s.own k → lab o w.heap.size 9 k ≠ 1) := fun k e => by rw [hold k (hso k e).1]; have := (hso k e).2; omega
  have HC1 := hide (hC.kept (o' := lab o w.heap.size 9) hKA (fun _ _ _ h => h) hold)
  have HW1 := hide (hWk.keptN hKA)
  have hA1 := hA.kept (o' := lab o w.heap.size 9) hKA (fun _ _ _ h => h) hold
  have HN1 := hide (hN.keptO hKA (fun _ _ h => h))
  have HKA := hide hKA
  have HGW := hide hco.lt
  clear cell hN hC hWk hA hKA hK1 hV hso
  go_enter func155, ntmps155
  go_upto_region 1 with fail
  generalize (w.alloc (.cells #[.int .i64 s.pg, .bool s.l, .slice s.a1 s.n1 s.c1, .slice s.a2 s.n2 s.c2, .slice s.a3 s.n3 s.c3, .int .i64 s.kid, .int .i64 s.was] 85)).alloc (.cells #[.int .i64 0, .int .i64 0, .int .i64 0, .bool false, .slice none 0 0, .slice none 0 0, .slice none 0 0] 216) = w1 at *
  obtain ⟨gb, Hgb⟩ : ∃ q, Hid (w.heap.size = q) := ⟨_, rfl⟩
  obtain ⟨o1, Ho1⟩ : ∃ q, Hid (lab o w.heap.size 9 = q) := ⟨_, rfl⟩
  rw [Ho1.out] at HC1 HOG HV1 HOLD HSO hA1
  rw [Hgb.out] at q1 q2 q3 q4 hco HGW HOG ⊢
  clear hold
  obtain ⟨da, dc, ed, hdc⟩ := hA1.nd.d.open
  obtain ⟨gd, rfl, _, c0⟩ := hdc bt (by omega)
  obtain ⟨gd', e', _, c1⟩ := hdc (bt + 1) (by omega)
  have e'' : gd' = gd := by have := Option.some.inj e'; simp only [Addr.mk.injEq] at this; exact this.1.symm
  subst e''
  clear e' hdc
  have k3 : w1.cell? ⟨g, i * 7 + 1 + 3, none⟩ = some (.slice (some ⟨gd', 0, none⟩) nab.kd.length dc) := (row_step hA1.row i hA1.hi 4 _ (by rw [hA1.hx, ← ed]; rfl)).1
  have kI : w1.cell? ⟨g, i * 7 + 5, none⟩ = some (.int .i64 (kid : Int)) := (row_step hA1.row i hA1.hi 5 _ (by rw [hA1.hx, ← hkid]; rfl)).1
  obtain ⟨b1, Hb1⟩ : ∃ q, Hid (bt + 1 = q) := ⟨_, rfl⟩
  have hbw : IntKind.i64.wrap ((bt : Int) + 1) = (b1 : Int) := by rw [← Hb1.out, IntKind.wrap_i64]; omega
  have hi0 : (bt : Int) < (nab.kd.length : Int) := by omega
  have hi1 : (b1 : Int) < (nab.kd.length : Int) := by have := Hb1.out; omega
  have g0 : nab.kd.getD bt 0 = nab.kd[bt]'(by omega) := by rw [List.getD_eq_getElem?_getD, List.getElem?_eq_getElem (by omega)]; rfl
  have g1 : nab.kd.getD (bt + 1) 0 = nab.kd[bt + 1]'(by omega) := by rw [List.getD_eq_getElem?_getD, List.getElem?_eq_getElem (by omega)]; rfl
  rw [← g0] at c0
  rw [← g1] at c1
  rw [Hb1.out] at c1
  clear g0 g1
  obtain ⟨lf, Hlf⟩ : ∃ q, Hid (nab.kd.getD bt 0 = q) := ⟨_, rfl⟩
  obtain ⟨rt, Hrt⟩ : ∃ q, Hid (nab.kd.getD b1 0 = q) := ⟨_, rfl⟩
  rw [Hlf.out] at c0
  rw [Hrt.out] at c1
  obtain ⟨ld, Hld⟩ : ∃ q, Hid (nab.kd.length = q) := ⟨_, rfl⟩
  rw [Hld.out] at k3 hi0 hi1
  have HA1 := hide hA1
  have HKS := hide hks
  have HBT := hide hbt
  have HN6 := hide hn6
  clear hA1 hks hbt hn6 ed
  go_upto_region 1 with fail
  go_quiet (fail)
  have hkd : Kp none' w1 (w1.drewN nq) := Kp.drewN _ _ _
  replace q1 := hkd.cell q1 (fun h => h)
  replace q2 := hkd.cell q2 (fun h => h)
  replace q3 := hkd.cell q3 (fun h => h)
  replace q4 := hkd.cell q4 (fun h => h)
  replace kI := hkd.cell kI (fun h => h)
  replace hco := hco.kept hkd (fun h => h)
  have HC2 := hide (HC1.out.kept (o' := o1) hkd (fun _ _ _ h => h) (fun _ _ => rfl))
  have HW2 := hide (HW1.out.keptN hkd)
  have HA2 := hide (HA1.out.kept (o' := o1) hkd (fun _ _ _ h => h) (fun _ _ => rfl))
  have HN2 := hide (HN1.out.keptO hkd (fun _ _ h => h))
  have HK2 := hide (HKA.out.thenN hkd)
  have HG2 : Hid (gb + 1 < (w1.drewN nq).heap.size) := Qd HGW.out hkd.size
  generalize w1.drewN nq = w2 at *
  clear HC1 HW1 HA1 HN1 HKA HGW hkd c0 c1 k3 hi0 hi1 hbw
  have HLE : Hid (s.l = n.leaf) := by
    obtain ⟨⟨pv, kv, dv, e0, _⟩, _⟩ := HN2.out
    unfold SpV.node at e0
    simp only [Value.agg.injEq, Array.mk.injEq, List.cons.injEq, Value.bool.injEq] at e0
    exact e0.1
  have HZ : Hid (coZ kid bt nab = if bt = kid then rt else lf) := by show _ = _; unfold coZ; rw [Hlf.out, Hb1.out, Hrt.out]
  obtain ⟨bq, Hbq⟩ : ∃ q, Hid (decide (bt = kid) = q) := ⟨_, rfl⟩
  have hbq : ((bt : Int) == (kid : Int)) = bq := by rw [← Hbq.out]; by_cases h : bt = kid; (simp [h]); (have h' : ¬ (bt : Int) = (kid : Int) := by omega); simp [h, h']
  have hex : ∃ z, z = coZ kid bt nab ∧ (bq = true → z = rt) ∧ (bq = false → z = lf) := by
    refine ⟨_, rfl, fun h => ?_, fun h => ?_⟩
    · rw [HZ.out, if_pos (by rw [h] at Hbq; exact of_decide_eq_true Hbq.out)]
    · rw [HZ.out, if_neg (by rw [h] at Hbq; exact of_decide_eq_false Hbq.out)]
  obtain ⟨z, Hz, hz1, hz2⟩ := hex
  have HTW := hide (CE b r C.k z 1 [wv, tv, sv] 80 V c mm C.S w2 HC2.out.hd HW2.out (by omega))
  have Hz' := hide Hz
  clear Hz HZ
  have HE0 : Hid (C.coE (coZ kid bt nab) = trE C.S C.k z 1 ∧ C.coN (coZ kid bt nab) = trN C.S C.k z 1 ∧ C.co (coZ kid bt nab) = { C with k := trK C.S C.k z }) := by rw [← Hz'.out]; exact ⟨rfl, rfl, rfl⟩
  obtain ⟨E, HE⟩ : ∃ q, Hid (trE C.S C.k z 1 = q) := ⟨_, rfl⟩
  obtain ⟨nn, Hnn⟩ : ∃ q, Hid (trN C.S C.k z 1 = q) := ⟨_, rfl⟩
  obtain ⟨kk, Hkk⟩ : ∃ q, Hid (trK C.S C.k z = q) := ⟨_, rfl⟩
  unfold B2 at HTW
  rw [HE.out, Hnn.out, Hkk.out] at HE0
  simp only [HE.out, Hnn.out, Hkk.out] at HTW
  cases bq
  all_goals
    first | (have hz := (hz1 rfl).symm; subst hz) | (have hz := (hz2 rfl).symm; subst hz)
    clear hz1 hz2
    go_upto_region 6 with (first
      | (go_at_call 68; refine HTW.out.mono ?_; rintro e w3 ⟨l3, a4, m4, c4, a5, m5, c5, a6, m6, c6, rfl, hO3, hWl3, hk3⟩)
      | fail)
    have HFIN : Hid (∀ W, Kp (fun k => k = gb + 1) w3 W → Cm W b r o1 (C.co (coZ kid bt nab)) wv tv sv xs ∧ Wk W r V c mm C.S ∧ Kp (only b) w W) := by
      intro W hkW
      have h9 := HOG.out.2
      have hob := HC2.out.ob
      rw [HE0.out.2.2]
      refine ⟨(HC2.out.walk hWl3 hk3 (fun _ _ => rfl)).kept hkW (fun k _ e e' => by subst e'; omega) (fun _ _ => rfl), (HW2.out.kept hk3 (fun k _ e e' => by unfold only at e'; subst e'; have := HV1.out k e; omega)).kept hkW (fun k _ e e' => by subst e'; have := HV1.out _ e; omega), (HK2.out.trans hk3 (fun _ _ h => by cases h) (fun _ _ h => h)).trans hkW (fun _ _ h => h) (fun k hk' e => by have := Hgb.out; omega)⟩
    have hbne : ¬ only b (gb + 1) := fun e => by unfold only at e; have := HC2.out.ob; have := HOG.out.2; rw [e] at this; omega
    have hbne0 : ¬ only b gb := fun e => by unfold only at e; have := HC2.out.ob; have := HOG.out.1; rw [e] at this; omega
    have nb4 := Nb.new w3 l3 (.slice a4 m4 c4) (.slice a5 m5 c5) (.slice a6 m6 c6)
    have hk4 : Kp none' w3 (w3.alloc (.cells #[.bool l3, .slice a4 m4 c4, .slice a5 m5 c5, .slice a6 m6 c6] 35)) := Kp.alloc _ _ _
    have hco4 := (hco.kept hk3 hbne).kept hk4 (fun h => h)
    replace q1 := hk4.cell (hk3.cell q1 hbne0) (fun h => h)
    replace q2 := hk4.cell (hk3.cell q2 hbne0) (fun h => h)
    replace q3 := hk4.cell (hk3.cell q3 hbne0) (fun h => h)
    replace q4 := hk4.cell (hk3.cell q4 hbne0) (fun h => h)
    have x0 := nb4.c0
    have x1 := nb4.c1
    have x2 := nb4.c2
    have x3 := nb4.c3
    have HO3 := hide hO3
    have HK3 := hide hk3
    have HG3 : Hid (gb + 1 < w3.heap.size) := Qd HG2.out hk3.size
    obtain ⟨g14, Hg14⟩ : ∃ q, Hid (w3.heap.size = q) := ⟨_, rfl⟩
    rw [Hg14.out] at nb4 x0 x1 x2 x3 ⊢
    generalize w3.alloc (.cells #[.bool l3, .slice a4 m4 c4, .slice a5 m5 c5, .slice a6 m6 c6] 35) = w4 at *
    have HK4 := hide hk4
    clear hO3 hWl3 hk3 hk4 hbne hbne0 hco HTW
    by_cases h0 : E = 0
    · have hg0 : (E != 0) = false := by rw [h0]; rfl
      have H0 := hide h0
      clear h0
      by_cases hl : nn.leaf = n.leaf
      · have hgl : (!(l3 == s.l)) = false := by have h1 : l3 = nn.leaf := HO3.out.l; rw [h1, HLE.out, hl]; simp
        have HLL := hide hl
        clear hl
        go_upto_region 10 with fail
        go_cut [16, 17] from 62 to 64 (fun t16 t17 W => ∃ g16 g17, t16 = .pointer (some ⟨g16, 0, none⟩) ∧ t17 = .pointer (some ⟨g17, 0, none⟩) ∧ g16 ≠ g17 ∧ Nb W g16 l3 (.slice a4 m4 c4) (.slice a5 m5 c5) (.slice a6 m6 c6) ∧ Nb W g17 s.l (.slice s.a1 s.n1 s.c1) (.slice s.a2 s.n2 s.c2) (.slice s.a3 s.n3 s.c3) ∧ Kp none' w4 W ∧ w4.heap.size ≤ g16 ∧ w4.heap.size ≤ g17)
        case first =>
          have x0a : ∀ oo, (w4.alloc oo).cell? ⟨g14, 0, none⟩ = some (.bool l3) := fun oo => (Kp.alloc none' w4 oo).cell x0 (fun h => h)
          have x0b : ∀ oo o2, ((w4.alloc oo).alloc o2).cell? ⟨g14, 0, none⟩ = some (.bool l3) := fun oo o2 => (Kp.alloc none' (w4.alloc oo) o2).cell (x0a oo) (fun h => h)
          have x1a : ∀ oo, (w4.alloc oo).cell? ⟨g14, 1, none⟩ = some (.slice a4 m4 c4) := fun oo => (Kp.alloc none' w4 oo).cell x1 (fun h => h)
          have x1b : ∀ oo o2, ((w4.alloc oo).alloc o2).cell? ⟨g14, 1, none⟩ = some (.slice a4 m4 c4) := fun oo o2 => (Kp.alloc none' (w4.alloc oo) o2).cell (x1a oo) (fun h => h)
          have x2a : ∀ oo, (w4.alloc oo).cell? ⟨g14, 2, none⟩ = some (.slice a5 m5 c5) := fun oo => (Kp.alloc none' w4 oo).cell x2 (fun h => h)
          have x2b : ∀ oo o2, ((w4.alloc oo).alloc o2).cell? ⟨g14, 2, none⟩ = some (.slice a5 m5 c5) := fun oo o2 => (Kp.alloc none' (w4.alloc oo) o2).cell (x2a oo) (fun h => h)
          have x3a : ∀ oo, (w4.alloc oo).cell? ⟨g14, 3, none⟩ = some (.slice a6 m6 c6) := fun oo => (Kp.alloc none' w4 oo).cell x3 (fun h => h)
          have x3b : ∀ oo o2, ((w4.alloc oo).alloc o2).cell? ⟨g14, 3, none⟩ = some (.slice a6 m6 c6) := fun oo o2 => (Kp.alloc none' (w4.alloc oo) o2).cell (x3a oo) (fun h => h)
          have q1a : ∀ oo, (w4.alloc oo).cell? ⟨gb, 1, none⟩ = some (.bool s.l) := fun oo => (Kp.alloc none' w4 oo).cell q1 (fun h => h)
          have q1b : ∀ oo o2, ((w4.alloc oo).alloc o2).cell? ⟨gb, 1, none⟩ = some (.bool s.l) := fun oo o2 => (Kp.alloc none' (w4.alloc oo) o2).cell (q1a oo) (fun h => h)
          have q2a : ∀ oo, (w4.alloc oo).cell? ⟨gb, 1 + 1, none⟩ = some (.slice s.a1 s.n1 s.c1) := fun oo => (Kp.alloc none' w4 oo).cell q2 (fun h => h)
          have q2b : ∀ oo o2, ((w4.alloc oo).alloc o2).cell? ⟨gb, 1 + 1, none⟩ = some (.slice s.a1 s.n1 s.c1) := fun oo o2 => (Kp.alloc none' (w4.alloc oo) o2).cell (q2a oo) (fun h => h)
          have q3a : ∀ oo, (w4.alloc oo).cell? ⟨gb, 1 + 2, none⟩ = some (.slice s.a2 s.n2 s.c2) := fun oo => (Kp.alloc none' w4 oo).cell q3 (fun h => h)
          have q3b : ∀ oo o2, ((w4.alloc oo).alloc o2).cell? ⟨gb, 1 + 2, none⟩ = some (.slice s.a2 s.n2 s.c2) := fun oo o2 => (Kp.alloc none' (w4.alloc oo) o2).cell (q3a oo) (fun h => h)
          have q4a : ∀ oo, (w4.alloc oo).cell? ⟨gb, 1 + 3, none⟩ = some (.slice s.a3 s.n3 s.c3) := fun oo => (Kp.alloc none' w4 oo).cell q4 (fun h => h)
          have q4b : ∀ oo o2, ((w4.alloc oo).alloc o2).cell? ⟨gb, 1 + 3, none⟩ = some (.slice s.a3 s.n3 s.c3) := fun oo o2 => (Kp.alloc none' (w4.alloc oo) o2).cell (q4a oo) (fun h => h)
          clear nb4 hco4
          go_region_law (fail)
          all_goals (
            go_wp2
            go_meet
            case rel => first | (have h := K8 w4 l3 s.l (.slice a4 m4 c4) (.slice a5 m5 c5) (.slice a6 m6 c6) (.slice s.a1 s.n1 s.c1) (.slice s.a2 s.n2 s.c2) (.slice s.a3 s.n3 s.c3); exact ⟨w4.heap.size, w4.heap.size + 1, rfl, rfl, by omega, h.1, h.2.1, h.2.2, Nat.le_refl _, by omega⟩) | (have h := K8 w4 s.l l3 (.slice s.a1 s.n1 s.c1) (.slice s.a2 s.n2 s.c2) (.slice s.a3 s.n3 s.c3) (.slice a4 m4 c4) (.slice a5 m5 c5) (.slice a6 m6 c6); exact ⟨w4.heap.size + 1, w4.heap.size, rfl, rfl, by omega, h.2.1, h.1, h.2.2, by omega, Nat.le_refl _⟩))
        case rest =>
          obtain ⟨g16, g17, rfl, rfl, hne, n16, n17, hk5, hG16, hG17⟩ := hcut
          have kI5 := hk5.cell (HK4.out.cell (HK3.out.cell kI (fun e => by unfold only at e; have := HC2.out.ob; have := HA2.out.og; rw [e] at this; omega)) (fun h => h)) (fun h => h)
          clear kI x0 x1 x2 x3 q1 q2 q3 q4
          have y0 := n16.c0
          have y1 := n16.c1
          have y2 := n16.c2
          have y3 := n16.c3
          have z0 := n17.c0
          have z1 := n17.c1
          have z2 := n17.c2
          have z3 := n17.c3
          go_upto_region 13 with (first
            | (refine Af rfl rfl (.tmp 16) (.tmp 71) rfl g16 rfl rfl n16 ?_; clear n16; intro w6 n16 hk6; replace n17 := Aw n17 (by omega) hk6; replace hk5 := Ax hk5 hG16 hk6)
            | (refine Af rfl rfl (.tmp 17) (.tmp 72) rfl g17 rfl rfl n17 ?_; clear n17; intro w7 n17 hk7; replace n16 := Aw n16 (by omega) hk7; replace hk5 := Ax hk5 hG17 hk7)
            | fail)
          clear y0 y1 y2 y3 z0 z1 z2 z3 kI5
          first | (generalize w7 = W at *) | (generalize wc = W at *)
          have y0 := n16.c0
          have y1 := n16.c1
          have y2 := n16.c2
          have y3 := n16.c3
          have z0 := n17.c0
          have z1 := n17.c1
          have z2 := n17.c2
          have z3 := n17.c3
          have hlab : ∀ k, o1 k = 6 → ¬ only b k := fun k e e' => by unfold only at e'; subst e'; have := HC2.out.ob; omega
          have hA5 := ((HA2.out.kept (o' := o1) HK3.out (fun k _ e => hlab k e) (fun _ _ => rfl)).kept (o' := o1) HK4.out (fun _ _ _ h => h) (fun _ _ => rfl)).kept (o' := o1) hk5 (fun _ _ _ h => h) (fun _ _ => rfl)
          have hNs := ((HN2.out.keptO HK3.out (fun k e e' => by unfold only at e'; subst e'; have := HC2.out.ob; exact HSO.out k e this)).keptO HK4.out (fun _ _ h => h)).keptO hk5 (fun _ _ h => h)
          have hNn : Nv W.heap.size W (.agg #[.bool l3, .slice a4 m4 c4, .slice a5 m5 c5, .slice a6 m6 c6]) nn := ((HO3.out.kept HK4.out (fun _ _ _ h => h)).kept hk5 (fun _ _ _ h => h)).nv
          obtain ⟨ka, kc, ek, hkc⟩ := hA5.nd.k.open
          obtain ⟨gk, rfl, _, ck⟩ := hkc bt HBT.out
          have kK : W.cell? ⟨g, i * 7 + 1 + 2, none⟩ = some (.slice (some ⟨gk, 0, none⟩) nab.ks.length kc) := (row_step hA5.row i hA5.hi 3 _ (by rw [hA5.hx, ← ek]; rfl)).1
          have gkk : nab.ks.getD bt ⟨#[]⟩ = nab.ks[bt]'HBT.out := by rw [List.getD_eq_getElem?_getD, List.getElem?_eq_getElem HBT.out]; rfl
          rw [← gkk] at ck
          have hkey : (nab.ks.getD bt ⟨#[]⟩).size ≤ maxLen := by rw [gkk]; exact hA5.nd.wf.k _ (List.getElem_mem _)
          obtain ⟨key, Hkey⟩ : ∃ q, Hid (nab.ks.getD bt ⟨#[]⟩ = q) := ⟨_, rfl⟩
          rw [Hkey.out] at ck hkey
          have hbi : (bt : Int) < (nab.ks.length : Int) := by have := HBT.out; omega
          rw [HE0.out.2.1] at hnn
          obtain ⟨J, HJE⟩ : ∃ q, Hid (C.coJ kid bt n nab = q) := ⟨_, rfl⟩
          have dr : Kp none' W W.drew := Kp.drew _ _
          have hNsd := hNs.keptO dr (fun _ _ h => h)
          have hNnd := P6 hNn dr
          first
            | (have hbk : bt = kid := of_decide_eq_true Hbq.out
               have hJ := Gq s.node _ n nn W.drew.heap.size key W.drew hNsd hNnd (Nat.le_refl _) hkey (by omega) (by omega) (by omega) (by omega) (by omega) (by omega)
               have eJ : n.join nn key = J := by rw [← HJE.out]; unfold Cg.coJ; rw [if_pos hbk, HE0.out.2.1, Hkey.out])
            | (have hbk : ¬ bt = kid := of_decide_eq_false Hbq.out
               have hJ := Gq _ s.node nn n W.drew.heap.size key W.drew hNnd hNsd (Nat.le_refl _) hkey (by omega) (by omega) (by omega) (by omega) (by omega) (by omega)
               have eJ : nn.join n key = J := by rw [← HJE.out]; unfold Cg.coJ; rw [if_neg hbk, HE0.out.2.1, Hkey.out])
          rw [eJ] at hJ
          unfold SpV.node at hJ
          have HJ := hide hJ
          have hco5 := hco4.kept hk5 (fun h => h)
          have HK5 := hide hk5
          clear hJ eJ hNsd hNnd hNs hNn hA5 hk5 hco4 n16 n17 ek hkc gkk hbk hlab
          go_region_law (first
            | (go_simp; go_at_call 181; refine HJ.out.mono ?_; rintro e w8 ⟨jv, rfl, hJ8, hk8, hfr8⟩; obtain ⟨lj, b4, e4, f4, b5, e5, f5, b6, e6, f6, rfl, hfr8⟩ := hfr8; have hco8 := (hco5.kept dr (fun h => h)).kept hk8 (fun h => h); have d0 := hco8.c0; have fz0 := hco8.fz 0; have d1 := hco8.c1; have fz1 := hco8.fz 1; have d2 := hco8.c2; have fz2 := hco8.fz 2; have d3 := hco8.c3; have fz3 := hco8.fz 3; have d4 := hco8.c4; have fz4 := hco8.fz 4; have d5 := hco8.c5; have fz5 := hco8.fz 5; have d6 := hco8.c6; have fz6 := hco8.fz 6)
            | fail)
          all_goals (
            go_wp2
            obtain ⟨hco9, hk9⟩ := hco8.put (.int .i64 lf) (.int .i64 rt) (.int .i64 (bt : Int)) (.bool lj) (.slice b4 e4 f4) (.slice b5 e5 f5) (.slice b6 e6 f6)
            refine bodyPost_ret (Ds rfl _ (gb + 1) _ (.bool true) (.int .i64 0) rfl rfl rfl hco9) rfl ?_
            revert hk9 hco9
            generalize ((((((w8.setCell ⟨gb + 1, 0, none⟩ (.int .i64 lf)).setCell ⟨gb + 1, 1, none⟩ (.int .i64 rt)).setCell ⟨gb + 1, 2, none⟩ (.int .i64 (bt : Int))).setCell ⟨gb + 1, 3, none⟩ (.bool lj)).setCell ⟨gb + 1, 4, none⟩ (.slice b4 e4 f4)).setCell ⟨gb + 1, 5, none⟩ (.slice b5 e5 f5)).setCell ⟨gb + 1, 6, none⟩ (.slice b6 e6 f6) = w9
            intro hco9 hk9
            have hk39 : Kp (fun k => k = gb + 1) w3 W := ((HK4.out.thenN HK5.out)).mono (fun _ _ h => by cases h)
            have hkW9 : Kp (only (gb + 1)) W w9 := ((dr.thenN hk8).mono (fun _ _ h => by cases h)).then hk9
            obtain ⟨f1, _, _⟩ := HFIN.out W hk39
            obtain ⟨_, g2, g3⟩ := HFIN.out w9 (hk39.then (hkW9.mono (fun _ _ e => e)))
            have hgW : gb + 1 < W.heap.size := Qd HG3.out hk39.size
            have hwW : w.heap.size ≤ W.heap.size := by have := Hgb.out; omega
            refine ⟨lab o1 W.heap.size 0, fun k e => by rw [Ad (by omega)]; exact HOLD.out k e, f1.kept hkW9 (fun k _ e e' => by unfold only at e'; subst e'; have := HOG.out.2; omega) (fun k e => Ad e), g2, g3, ?_⟩
            unfold CoupV
            rw [HE0.out.1, if_pos H0.out, HE0.out.2.1, if_pos HLL.out]
            refine ⟨⟨nab.kd.getD bt 0, lj, b4, e4, f4, b5, e5, f5, b6, e6, f6, 0, 0⟩, rfl, rfl, rfl, ⟨rfl, ?_, fun k e => ⟨Qd (hfr8 k e).2 hk9.size, Ap (hfr8 k e).1⟩⟩, ?_⟩
            · rw [HJE.out]
              exact Nv.keptO (x := ⟨nab.kd.getD bt 0, lj, b4, e4, f4, b5, e5, f5, b6, e6, f6, 0, 0⟩) hJ8 hk9 (fun k e e' => by unfold only at e'; have h1 : W.heap.size ≤ k := (hfr8 k e).1; omega)
            · simp only [Hlf.out, Hb1.out, Hrt.out])
      · have hgl : (!(l3 == s.l)) = true := by have h1 : l3 = nn.leaf := HO3.out.l; rw [h1, HLE.out]; simp [hl]
        have HEND : Hid (∀ W, Kp (only (gb + 1)) w4 W → EV b r c mm o V C wv tv sv xs kid bt n nab w W (.returned (.tuple #[.agg #[.int .i64 0, .int .i64 0, .int .i64 0, .bool false, .slice none 0 0, .slice none 0 0, .slice none 0 0], .bool false, .int .i64 0]))) := by
          intro W hk
          obtain ⟨f1, f2, f3⟩ := HFIN.out W ((HK4.out.mono (fun _ _ h => by cases h)).then (hk.mono (fun _ _ e => e)))
          refine ⟨o1, HOLD.out, f1, f2, f3, ?_⟩
          unfold CoupV
          rw [HE0.out.1, if_pos H0.out, HE0.out.2.1, if_neg hl]
        clear hl
        go_wp2_with (first
          | (refine Ck rfl rfl (.tmp 8) (.tmp 61) rfl (gb + 1) rfl rfl hco4 ?_; intro w5 hco5 hk5)
          | fail)
        refine bodyPost_ret (Ds rfl _ (gb + 1) _ _ _ rfl rfl rfl hco5) rfl ?_
        exact HEND.out w5 hk5
    · have hg0 : (E != 0) = true := by rw [bne_iff_ne]; exact h0
      have HEND : Hid (∀ W, Kp (only (gb + 1)) w4 W → EV b r c mm o V C wv tv sv xs kid bt n nab w W (.returned (.tuple #[.agg #[.int .i64 0, .int .i64 0, .int .i64 0, .bool false, .slice none 0 0, .slice none 0 0, .slice none 0 0], .bool false, .int .i64 E]))) := by
        intro W hk
        obtain ⟨f1, f2, f3⟩ := HFIN.out W ((HK4.out.mono (fun _ _ h => by cases h)).then (hk.mono (fun _ _ e => e)))
        refine ⟨o1, HOLD.out, f1, f2, f3, ?_⟩
        unfold CoupV
        rw [HE0.out.1, if_neg h0]
      clear h0
      go_wp2_with (first
        | (refine Ck rfl rfl (.tmp 8) (.tmp 53) rfl (gb + 1) rfl rfl hco4 ?_; intro w5 hco5 hk5)
        | fail)
      refine bodyPost_ret (Ds rfl _ (gb + 1) _ _ _ rfl rfl rfl hco5) rfl ?_
      exact HEND.out w5 hk5
def BV(b r c mm g m cap i rb base:Nat)(o:Nat->Nat)(R:Gr)(xa:List SpV)(x:SpV)(w w':World):Prop:=∃(o':Nat->Nat) (V':Nat->Prop) (wv' tv' sv':Value) (xs':List SpV),Cm w' b r o' R.C wv' tv' sv' xs'/\Wk w' r V' c mm R.C.S/\(∀k,V' k->o' k=5/\k<w'.heap.size)/\Kp (fun k=>1<=o k/\o k<=6) w w' /\
 (R.go=true->R.e=0->(∀k,k<w.heap.size->o' k=o k)/\∃x':SpV,w'.ownsRow rb 85 7 (.slice (some ⟨g,0,none⟩) m cap) (xa.set i x').length (stcs (xa.set i x'))/\OwM w' base x'.l x'.p x'.k x'.d R.ab/\(x'.pg=x.pg/\x'.kid=x.kid/\x'.was=x.was)/\(∀k,x'.own k->(o k=6\/w.heap.size<=k)/\6<=o' k)/\¬x'.own g) /\
 (R.go=false->w'.ownsRow rb 85 7 (.slice (some ⟨g,0,none⟩) m cap) xa.length (stcs xa))/\(∀k,V' k->k<w.heap.size->o k=5)
def cocs(nab:Nd)(bt:Nat)(y:SpV):List Value:=[.int .i64 y.pg,.int .i64 (nab.kd.getD (bt+1) 0),.int .i64 (bt:Int),.bool y.l,.slice y.a1 y.n1 y.c1,.slice y.a2 y.n2 y.c2,.slice y.a3 y.n3 y.c3]
theorem PM:(prog.info? 216).map (fun i=>(i.zero,i.size,i.bytes))=some (some (.agg #[.int .i64 0,.int .i64 0,.int .i64 0,.bool false,.slice none 0 0,.slice none 0 0,.slice none 0 0]),7,104):=by kernel_rfl
theorem MZ(nab:Nd)(bt:Nat)(y:SpV):∀u∈cocs nab bt y,u.oneCell'=true:=by
 intro u hu;simp only[cocs,List.mem_cons,List.not_mem_nil,or_false]at hu;rcases hu with rfl|rfl|rfl|rfl|rfl|rfl|rfl<;>rfl
theorem appCo(w:World)(base:Nat)(v:Value)(n:Nat)(cs:List Value)(nab:Nd)(bt:Nat)(y:SpV)(hO:w.ownsRow base 216 7 v n cs)(hb:base<=w.heap.size)(hl:n<=1000000) :
  ∃g c w',(Builtin.append_ #[214,214] 214 #[v,.slice (some ⟨w.heap.size,0,none⟩) 1 1]).run prog (w.alloc (.cells #[.int .i64 y.pg,.int .i64 (nab.kd.getD (bt+1) 0),.int .i64 (bt:Int),.bool y.l,.slice y.a1 y.n1 y.c1,.slice y.a2 y.n2 y.c2,.slice y.a3 y.n3 y.c3] 216))=.ok (.slice (some ⟨g,0,none⟩) (n+1) c) w' /\
   w'.ownsRow base 216 7 (.slice (some ⟨g,0,none⟩) (n+1) c) (n+1) (cs++cocs nab bt y)/\Kp (fun k=>v.ownBlock=some k) w w'/\(v.ownBlock=some g\/w.heap.size<=g):=by
 have hKA:Kp none' w (w.alloc (.cells #[.int .i64 y.pg,.int .i64 (nab.kd.getD (bt+1) 0),.int .i64 (bt:Int),.bool y.l,.slice y.a1 y.n1 y.c1,.slice y.a2 y.n2 y.c2,.slice y.a3 y.n3 y.c3] 216)):=Kp.alloc _ _ _;have hs:=Lq (P:=prog) w 214 216 underlying214 (cocs nab bt y) (MZ nab bt y) _ rfl
 obtain⟨v',w',h1,h2,h3,h4⟩:=Ig 214 216 214 _ 7 104 underlying214 PM rfl (by omega) _ base v _ _ _ 1 _ (Ao hO hKA (fun _ _ h=>h)) hs (Nat.le_trans hb hKA.size) (by omega) (by omega);rcases h2.2 with ⟨e,h0⟩|⟨g,cap,cur,e,hbg,hg,_⟩
 ·omega
 ·subst e;refine⟨g,cap,w',h1,h2,hKA.nThen (Kp.ofGrown h3 (fun k hk _=>hk)),?_⟩;rcases h4 with e|e
  ·exact .inl e.symm
  ·have e1:g=(w.alloc (.cells #[.int .i64 y.pg,.int .i64 (nab.kd.getD (bt+1) 0),.int .i64 (bt:Int),.bool y.l,.slice y.a1 y.n1 y.c1,.slice y.a2 y.n2 y.c2,.slice y.a3 y.n3 y.c3] 216)).heap.size:=Option.some.inj e;exact .inr (by rw[e1];exact hKA.size)
def Gre(w:World)(B:Nat)(o:Nat->Nat)(nab:Nd)(q:Option (Nat × Nd))(v:Value):Prop:=match q with
 | none=>v=.slice none 0 0
 | some p=>∃(y:SpV) (n gg cc:Nat) (rest:List Value),v=.slice (some ⟨gg,0,none⟩) (n+1) cc/\w.ownsRow B 216 7 v (n+1) (cocs nab p.1 y++rest)/\n<=5/\y.pg=nab.kd.getD p.1 0/\y.kid=0/\y.was=0/\WrIs w o y (y.pg,p.2)/\o gg=8
theorem Gre.kept {w w' : World} {B : Nat} {o o' : Nat → Nat} {nab : Nd} {q : Option (Nat × Nd)} {v : Value} {S : Nat → Prop} (h : Gre w B o nab q v) (hk : Kp S w w') (hS : ∀ k, k < w.heap.size → (o k = 0 ∨ o k = 8) → ¬ S k) (ho : ∀ k, k < w.heap.size → o' k = o k) : Gre w' B o' nab q v := by
  cases q with
  | none => exact h
  | some p =>
    obtain ⟨y, n, gg, cc, rest, e, h1, h2, h3, h4, h5, h6, h7⟩ := h
    have hlt : gg < w.heap.size := (World.ownsRow.lt h1 gg (by rw [e]; rfl)).2
    exact ⟨y, n, gg, cc, rest, e, Ao h1 hk (fun k e' => by have : gg = k := by rw [e] at e'; exact Option.some.inj e'
                                                           subst this; exact hS gg hlt (.inr h7)), h2, h3, h4, h5, h6.kept hk (fun k hk' e' => hS k hk' (.inl e')) ho, by rw [ho gg hlt]; exact h7⟩
theorem Gre.app {w : World} {B : Nat} {o : Nat → Nat} {nab : Nd} {q : Option (Nat × Nd)} {v : Value} (h : Gre w B o nab q v) (hB : B ≤ w.heap.size) (bt : Nat) (J : Nd) (y : SpV) (hy : y.pg = nab.kd.getD bt 0) (h0 : y.kid = 0) (h0' : y.was = 0) (hW : WrIs w o y (y.pg, J)) (hn : ∀ n gg cc, v = .slice (some ⟨gg, 0, none⟩) (n + 1) cc → n ≤ 4) :
    ∃ g n c w', (Builtin.append_ #[214, 214] 214 #[v, .slice (some ⟨w.heap.size, 0, none⟩) 1 1]).run prog (w.alloc (.cells #[.int .i64 y.pg, .int .i64 (nab.kd.getD (bt + 1) 0), .int .i64 (bt : Int), .bool y.l, .slice y.a1 y.n1 y.c1, .slice y.a2 y.n2 y.c2, .slice y.a3 y.n3 y.c3] 216)) = .ok (.slice (some ⟨g, 0, none⟩) n c) w' ∧
      Gre w' B (lab o w.heap.size 8) nab (q.or (some (bt, J))) (.slice (some ⟨g, 0, none⟩) n c) ∧ Kp (fun k => o k = 8 ∧ B ≤ k) w w' ∧ ∀ j, (∀ n gg cc, v = .slice (some ⟨gg, 0, none⟩) (n + 1) cc → n + 1 ≤ j) → n ≤ j + 1 := by
  cases q with
  | none =>
    have e : v = .slice none 0 0 := h
    subst e
    obtain ⟨g, c, w', h1, h2, h3, h4⟩ := appCo w B _ 0 [] nab bt y (World.ownsRow_nil w B 216 7) hB (by omega)
    have hg : w.heap.size ≤ g := by rcases h4 with e | e; cases e; exact e
    have hk : Kp none' w w' := h3.mono (fun k _ e => by cases e)
    refine ⟨g, 0 + 1, c, w', h1, ⟨y, 0, g, c, [], rfl, by simpa using h2, by omega, hy, h0, h0', hW.kept hk (fun _ _ _ h => h) (fun k hk => Ad hk), Ap hg⟩, hk.mono (fun _ _ h => by cases h), fun j _ => by omega⟩
  | some p =>
    obtain ⟨y', n, gg, cc, rest, e, h1, h2, h3, h4, h5, h6, h7⟩ := h
    subst e
    have hn4 := hn n gg cc rfl
    have hlt : gg < w.heap.size := (World.ownsRow.lt h1 gg rfl).2
    obtain ⟨g, c, w', a1, a2, a3, a4⟩ := appCo w B _ (n + 1) _ nab bt y h1 hB (by omega)
    have hk : Kp (fun k => o k = 8 ∧ B ≤ k) w w' := a3.mono (fun k _ e => by have : gg = k := Option.some.inj e
                                                                             subst this; exact ⟨h7, (World.ownsRow.lt h1 gg rfl).1⟩)
    refine ⟨g, n + 1 + 1, c, w', a1, ⟨y', n + 1, g, c, rest ++ cocs nab bt y, rfl, by rw [← List.append_assoc]; exact a2, by omega, h3, h4, h5, h6.kept hk (fun k _ e e' => by omega) (fun k hk => Ad hk), ?_⟩, hk, fun j hj => by have := hj n gg cc rfl; omega⟩
    rcases a4 with e | e
    · have : gg = g := Option.some.inj e
      subst this
      rw [Ad hlt]; exact h7
    · exact Ap e
theorem Jd{n:Nd}(h:n.writeE=0):n.ps.length<=256/\n.ks.length<=256/\n.kd.length<=257/\n.size<=256:=by
 obtain⟨hr,hs⟩:=Ay h;cases hl:n.leaf with
 | true =>
  obtain⟨_,h2,h3,h4⟩:=AI hr hl;have h5:=FP n.ps (fun p hp=>((BR hr hl) p hp).1.1);have h6:n.size=2+(n.ps.map Pr.size).sum:=by unfold Nd.size;rw[hl,if_pos rfl]
  rw[h2,h3];simp only[List.length_nil];omega
 | false =>
  obtain⟨_,h2,h3,h4⟩:=At hr hl;have h5:=D7 n.ks (fun k hk=>(Bj h4 k hk).1);have h6:n.size=4+(n.ks.map kSize).sum:=by unfold Nd.size;rw[hl,if_neg (by simp)]
  rw[h2];simp only[List.length_nil];omega
theorem Eh:nd0.ps.length<=256/\nd0.ks.length<=256/\nd0.kd.length<=257/\nd0.size<=256:=by decide
theorem Kc(S:Sw)(z:Int):(ndOf S z).ps.length<=256/\(ndOf S z).ks.length<=256/\(ndOf S z).kd.length<=257/\(ndOf S z).size<=256:=by
 unfold ndOf;split
 ·cases h:readN (S.read z).1 with
  | none=>exact Eh
  | some n=>exact Jd (Bk h).1
 ·exact Eh
theorem Ec(C:Cg)(z:Int):(C.coN z).ps.length<=256/\(C.coN z).ks.length<=256/\(C.coN z).kd.length<=257/\(C.coN z).size<=256:=by
 unfold Cg.coN trN;split
 ·exact Kc _ _
 ·exact Eh
theorem Dc(a b:Nd)(k:ByteArray)(h:a.leaf=b.leaf):(a.join b k).size<=a.size+b.size+kSize k/\(a.join b k).ps.length<=a.ps.length+b.ps.length/\(a.join b k).ks.length<=a.ks.length+b.ks.length+1/\(a.join b k).kd.length<=a.kd.length+b.kd.length:=by
 unfold Nd.join;cases hl:a.leaf with
 | true =>
  rw[if_pos rfl];have e1:a.size=2+(a.ps.map Pr.size).sum:=by unfold Nd.size;rw[hl,if_pos rfl]
  have e2:b.size=2+(b.ps.map Pr.size).sum:=by unfold Nd.size;rw[<-h,hl,if_pos rfl]
  refine⟨?_,by simp,by simp,by simp⟩;show 2+((a.ps++b.ps).map Pr.size).sum<=_;rw[List.map_append,List.sum_append];omega
 | false =>
  rw[if_neg (by simp)];have e1:a.size=4+(a.ks.map kSize).sum:=by unfold Nd.size;rw[hl,if_neg (by simp)]
  have e2:b.size=4+(b.ks.map kSize).sum:=by unfold Nd.size;rw[<-h,hl,if_neg (by simp)]
  refine⟨?_,by simp,by simp;omega,by simp⟩;show 4+((a.ks++[k]++b.ks).map kSize).sum<=_;simp only[List.map_append,List.sum_append,List.map_cons,List.map_nil,List.sum_cons,List.sum_nil];omega
theorem Fh(n:Nd)(hl:n.leaf=false)(i:Nat):kSize (n.ks.getD i ⟨#[]⟩)<=n.size:=by
 have e1:n.size=4+(n.ks.map kSize).sum:=by unfold Nd.size;rw[hl,if_neg (by simp)]
 by_cases h:i<n.ks.length
 ·rw[List.getD_eq_getElem?_getD,List.getElem?_eq_getElem h];have:∀(l:List ByteArray) (k:ByteArray),k∈l->kSize k<=(l.map kSize).sum:=by
   intro l;induction l with
   | nil=>intro k hk;cases hk
   | cons x l ih =>
    intro k hk;simp only[List.map_cons,List.sum_cons];rcases List.mem_cons.1 hk with e|e
    ·rw[e];omega
    ·have:=ih k e;omega
  have:=this n.ks _ (List.getElem_mem h);simp only[Option.getD_some];omega
 ·rw[List.getD_eq_getElem?_getD,List.getElem?_eq_none (by omega)];show 3+0<=_;omega
end Go.Proofs.YtgcgacjhkhjhmaaGreatDoor
namespace Go.Proofs.YtgcgacjhkhjhmaaGreatDoor
structure Bd (C:Cg) (W P T K:Nat):Prop where
 ws:C.ws.length<=W
 sp:C.sp.length<=P
 tk:C.tk.length<=T
 k:C.k<=K
 now:C.S.now.length<=1000
 oz:∀z∈C.sp,okZ z
 wz:∀p∈C.ws,p.2.ps.length<=100000/\p.2.ks.length<=100000
theorem Bd.mono{C:Cg}{W P T K W' P' T' K':Nat}(h:Bd C W P T K)(h1:W<=W')(h2:P<=P')(h3:T<=T')(h4:K<=K'):Bd C W' P' T' K':=⟨by have:=h.ws;omega,by have:=h.sp;omega,by have:=h.tk;omega,by have:=h.k;omega,h.now,h.oz,h.wz⟩
structure NdB (n:Nd) (Z:Nat):Prop where
 ps:n.ps.length<=2000
 ks:n.ks.length<=2000
 kd:n.kd.length<=2000
 sz:n.size<=Z
structure GoodSp (a:Sp):Prop where
 kid:a.kid<=a.nd.ks.length
 kdl:a.nd.kd.length=a.nd.ks.length+1
 ks:a.nd.ks.length<=256
 ps:a.nd.ps.length<=256
 lf:a.nd.leaf=false
 sz:a.nd.size<=256
 oz:∀z∈a.nd.kd,okZ z
theorem Cd{l:List Int}(h:∀z∈l,okZ z)(i:Nat):okZ (l.getD i 0):=by
 by_cases hi:i<l.length
 ·rw[List.getD_eq_getElem?_getD,List.getElem?_eq_getElem hi];exact h _ (List.getElem_mem hi)
 ·rw[List.getD_eq_getElem?_getD,List.getElem?_eq_none (by omega)];exact⟨by simp,by simp⟩
theorem L6(l:List ByteArray):∀k n m,lowest l k n=some m->m<n+k:=by
 intro k;induction k with
 | zero=>intro n m h;cases h
 | succ k ih =>
  intro n m h;unfold lowest at h;split at h
  ·have:=ih (n+1) m h;omega
  ·have:=Option.some.inj h;omega
theorem GE(S:Sw)(h:S.now.length<=1000):okZ S.takeE.1:=by
 unfold Sw.takeE okZ;split
 ·simp
 ·cases hf:S.free with
  | none=>simp
  | some n =>
   have:=L6 _ _ _ _ (show lowest S.now (S.now.length - 1) 1=some n from hf);simp only;omega
theorem Eo{C:Cg}{W P T K:Nat}(h:Bd C W P T K):okZ C.takeZ.1:=by
 unfold Cg.takeZ;split
 ·exact GE _ h.now
 ·exact Cd h.oz _
theorem Jn(S:Sw)(Z:ByteArray):(S.take Z).now.length=S.now.length:=by
 unfold Sw.take;split
 ·rfl
 ·split
  ·show ((turnL S.now _).set _ _).length=_;rw[List.length_set,Bv]
  ·rfl
theorem Bd.take{C:Cg}{W P T K:Nat}(h:Bd C W P T K):Bd C.take W P (T+1) K:=by
 unfold Cg.take;split
 ·refine⟨h.ws,h.sp,?_,h.k,by show (C.S.take _).now.length<=_;rw[Jn];exact h.now,h.oz,h.wz⟩;show (if C.S.takeE.2=0 then C.tk++[C.S.takeE.1] else C.tk).length<=T+1;have:=h.tk;split
  ·rw[List.length_append];simp;omega
  ·omega
 ·exact⟨h.ws,Nat.le_trans (List.length_take_le _ _) (by have:=h.sp;omega),by have:=h.tk;show C.tk.length<=_;omega,h.k,h.now,fun z hz=>h.oz z (List.mem_of_mem_take hz),h.wz⟩
theorem Bd.write{C:Cg}{W P T K:Nat}(h:Bd C W P T K)(z:Int)(n:Nd)(h1:n.ps.length<=100000)(h2:n.ks.length<=100000):Bd (C.write z n) (W+1) P T K:=by
 refine⟨?_,h.sp,h.tk,h.k,h.now,h.oz,fun p hp=>?_⟩
 ·show (C.ws++[(z,n)]).length<=_;have:=h.ws;rw[List.length_append];simp;omega
 ·rcases List.mem_append.1 hp with e|e
  ·exact h.wz p e
  ·rw[List.mem_singleton.1 e];exact⟨h1,h2⟩
theorem Bd.spare{C:Cg}{W P T K:Nat}(h:Bd C W P T K)(z:Int)(hz:okZ z):Bd { C with sp:=C.sp++[z] } W (P+1) T K:=by
 refine⟨h.ws,?_,h.tk,h.k,h.now,fun y hy=>?_,h.wz⟩
 ·show (C.sp++[z]).length<=_;have:=h.sp;rw[List.length_append];simp;omega
 ·rcases List.mem_append.1 hy with e|e
  ·exact h.oz y e
  ·rw[List.mem_singleton.1 e];exact hz
theorem Bd.co{C:Cg}{W P T K:Nat}(h:Bd C W P T K)(z:Int):Bd (C.co z) W P T (K+1):=⟨h.ws,h.sp,h.tk,by have:=h.k;have:=Ky C.S C.k z;show trK C.S C.k z<=K+1;omega,h.now,h.oz,h.wz⟩
theorem K7{α:Type}(f:α->Nat):∀(l:List α) (x:α),x∈l->f x<=(l.map f).sum
 | [],x,h=>by cases h
 | y::l,x,h=>by
  simp only[List.map_cons,List.sum_cons]
  rcases List.mem_cons.1 h with e|e
  ·rw[e];omega
  ·have:=K7 f l x e;omega
theorem IP(n:Nd):kSize n.mid<=n.size+3:=by
 unfold Nd.mid;cases hp:n.parts with
 | false=>rw[if_neg (by simp)];show 3+0<=_;omega
 | true =>
  rw[if_pos rfl];cases hl:n.leaf with
  | true =>
   rw[if_pos rfl];have e1:n.size=2+(n.ps.map Pr.size).sum:=by unfold Nd.size;rw[hl,if_pos rfl]
   by_cases hi:n.at_<n.ps.length
   ·rw[List.getD_eq_getElem?_getD,List.getElem?_eq_getElem hi];have h1:=K7 Pr.size n.ps _ (List.getElem_mem hi);have h2:(n.ps[n.at_]).size=2+(n.ps[n.at_]).k.size+(n.ps[n.at_]).v.size:=rfl;show 3+(n.ps[n.at_]).k.size<=_;omega
   ·rw[List.getD_eq_getElem?_getD,List.getElem?_eq_none (by omega)];show 3+0<=_;omega
  | false =>
   rw[if_neg (by simp)];have:=Fh n hl n.at_;omega
theorem Ej(n:Nd):n.fst.ps.length<=n.ps.length/\n.fst.ks.length<=n.ks.length/\n.snd.ps.length<=n.ps.length/\n.snd.ks.length<=n.ks.length:=by
 unfold Nd.fst Nd.snd;cases hp:n.parts with
 | false=>simp
 | true =>
  cases hl:n.leaf with
  | true=>simp[List.length_take,List.length_drop];omega
  | false=>simp[List.length_take,List.length_drop];omega
theorem Ot(ks:List ByteArray)(i:Nat)(x:ByteArray):((ks.set i x).map kSize).sum<=(ks.map kSize).sum+kSize x:=by
 induction ks generalizing i with
 | nil=>simp
 | cons k ks ih =>
  cases i with
  | zero=>simp only[Qb,List.map_cons,List.sum_cons];omega
  | succ i=>simp only[Qc,List.map_cons,List.sum_cons];have:=ih i;omega
theorem Nw(ks:List ByteArray)(i:Nat)(x:ByteArray):((insAt ks i x).map kSize).sum=(ks.map kSize).sum+kSize x/\(insAt ks i x).length=ks.length+1:=by
 unfold insAt;have h1:(ks.take i++ks.drop i)=ks:=List.take_append_drop i ks;have h2:(ks.map kSize).sum=((ks.take i).map kSize).sum+((ks.drop i).map kSize).sum:=by rw[<-List.sum_append,<-List.map_append,h1]
 have h3:ks.length=(ks.take i).length+(ks.drop i).length:=by rw[<-List.length_append,h1]
 refine⟨?_,?_⟩
 ·simp only[List.map_append,List.map_cons,List.sum_append,List.sum_cons];omega
 ·simp only[List.length_append,List.length_cons];omega
theorem JP(ks:List ByteArray)(i:Nat):((ks.eraseIdx i).map kSize).sum<=(ks.map kSize).sum:=by
 induction ks generalizing i with
 | nil=>simp
 | cons k ks ih =>
  cases i with
  | zero=>simp only[List.eraseIdx_cons_zero,List.map_cons,List.sum_cons];omega
  | succ i=>simp only[List.eraseIdx_cons_succ,List.map_cons,List.sum_cons];have:=ih i;omega
theorem GoodSp.ndB{a:Sp}(h:GoodSp a){Z:Nat}(hz:256<=Z):NdB a.nd Z:=⟨by have:=h.ps;omega,by have:=h.ks;omega,by have:=h.kdl;have:=h.ks;omega,by have:=h.sz;omega⟩
theorem GoodSp.lose{a:Sp}(h:GoodSp a)(i:Nat){Z:Nat}(hz:256<=Z):NdB (a.nd.lose i) Z:=by
 have e1:a.nd.size=4+(a.nd.ks.map kSize).sum:=by unfold Nd.size;rw[h.lf,if_neg (by simp)]
 have e2:(a.nd.lose i).size=4+((a.nd.lose i).ks.map kSize).sum:=by unfold Nd.size;rw[show (a.nd.lose i).leaf=a.nd.leaf from rfl,h.lf,if_neg (by simp)]
 have h1:=h.sz;have h2:=h.kdl;have h3:=h.ks;have h4:=h.ps;refine⟨by show a.nd.ps.length<=_;omega,?_,?_,?_⟩
 ·show (if a.nd.ks.length=0 then a.nd.ks else a.nd.ks.eraseIdx (i - 1)).length<=_;split
  ·omega
  ·have:=List.length_eraseIdx_le a.nd.ks (i - 1);omega
 ·have:=List.length_eraseIdx_le a.nd.kd i;show (a.nd.kd.eraseIdx i).length<=_;omega
 ·rw[e2];show 4+((if a.nd.ks.length=0 then a.nd.ks else a.nd.ks.eraseIdx (i - 1)).map kSize).sum<=_;split
  ·omega
  ·have:=JP a.nd.ks (i - 1);omega
theorem GR{a:Sp}(h:GoodSp a)(z:Int)(n:Nd)(Z:Nat)(hn:NdB n Z):∀(l:List Nat) (g:Option (Nat × Nd)) (C:Cg) (W P T K:Nat),Bd C W P T K->(∀p,g=some p->p.2.ps.length<=100000/\p.2.ks.length<=100000/\p.2.size<=Z+600) ->
  Bd (gathG z n a.nd a.kid l g C).C (W+2) (P+1) T (K+l.length)/\NdB (gathG z n a.nd a.kid l g C).ab (Z+1000)
 | [],g,C,W,P,T,K,hB,hg=>by
  show Bd (C.gathF z n a.nd g).C _ _ _ _/\NdB (C.gathF z n a.nd g).ab _
  have hw:Bd (C.write z n) (W+2) (P+1) T (K+0)/\NdB a.nd (Z+1000):=⟨(hB.write z n (by have:=hn.ps;omega) (by have:=hn.ks;omega)).mono (by omega) (by omega) (by omega) (by omega),h.ndB (by omega)⟩
  cases g with
  | none=>exact hw
  | some p =>
   obtain⟨g1,g2,g3⟩:=hg p rfl
   unfold Cg.gathF
   simp only
   split
   ·have hp:=Ej p.2
    refine⟨((hB.write _ p.2.fst (by omega) (by omega)).write _ p.2.snd (by omega) (by omega)).mono (by omega) (by omega) (by omega) (by show K<=K+0;omega),?_⟩
    have e1:a.nd.size=4+(a.nd.ks.map kSize).sum:=by unfold Nd.size;rw[h.lf,if_neg (by simp)]
    have h1:=h.sz
    have h2:=IP p.2
    have h3:=Ot a.nd.ks p.1 p.2.mid
    have h4:=h.ks
    have h5:=h.kdl
    have h6:=h.ps
    refine⟨by show a.nd.ps.length<=_;omega,by show (a.nd.ks.set _ _).length<=_;rw[List.length_set];omega,by show a.nd.kd.length<=_;omega,?_⟩
    have e2:({ a.nd with ks:=a.nd.ks.set p.1 p.2.mid }:Nd).size=4+((a.nd.ks.set p.1 p.2.mid).map kSize).sum:=by unfold Nd.size;rw[show ({ a.nd with ks:=a.nd.ks.set p.1 p.2.mid }:Nd).leaf=a.nd.leaf from rfl,h.lf,if_neg (by simp)]
    rw[e2]
    omega
   ·exact hw
 | bt::r,g,C,W,P,T,K,hB,hg=>by
  unfold gathG
  split
  ·split
   ·rename_i hE hL
    have hJ:(C.coJ a.kid bt n a.nd).ps.length<=100000/\(C.coJ a.kid bt n a.nd).ks.length<=100000/\(C.coJ a.kid bt n a.nd).size<=Z+600:=by
     have h1:=Ec C (coZ a.kid bt a.nd);have h2:=Fh a.nd h.lf bt;have h3:=h.sz;have h4:=hn.ps;have h5:=hn.ks;have h6:=hn.sz;unfold Cg.coJ;split
     ·have:=Dc n (C.coN (coZ a.kid bt a.nd)) (a.nd.ks.getD bt ⟨#[]⟩) hL.symm;omega
     ·have:=Dc (C.coN (coZ a.kid bt a.nd)) n (a.nd.ks.getD bt ⟨#[]⟩) hL;omega
    split
    ·have hb:=((hB.co (coZ a.kid bt a.nd)).write (a.nd.kd.getD bt 0) (C.coJ a.kid bt n a.nd) hJ.1 hJ.2.1).spare (a.nd.kd.getD (bt+1) 0) (Cd h.oz _);exact⟨hb.mono (by omega) (by omega) (by omega) (by simp only[List.length_cons];omega),h.lose _ (by omega)⟩
    ·obtain⟨i1,i2⟩:=GR h z n Z hn r (g.or (some (bt,C.coJ a.kid bt n a.nd))) (C.co (coZ a.kid bt a.nd)) W P T (K+1) (hB.co _) (fun p hp=>by
      cases g with
      | some p'=>exact hg p hp
      | none =>
       have:(bt,C.coJ a.kid bt n a.nd)=p:=Option.some.inj hp;rw[<-this];exact hJ)
     exact⟨i1.mono (by omega) (by omega) (by omega) (by simp only[List.length_cons];omega),i2⟩
   ·obtain⟨i1,i2⟩:=GR h z n Z hn r g (C.co (coZ a.kid bt a.nd)) W P T (K+1) (hB.co _) hg;exact⟨i1.mono (by omega) (by omega) (by omega) (by simp only[List.length_cons];omega),i2⟩
  ·exact⟨(hB.co (coZ a.kid bt a.nd)).mono (by omega) (by omega) (by omega) (by simp only[List.length_cons];omega),h.ndB (by omega)⟩
theorem MN{a:Sp}(h:GoodSp a)(s:Sp)(hs:okZ s.page)(Z:Nat)(hn:NdB s.nd Z)(hZ:256<=Z){C:Cg}{W P T K:Nat}(hB:Bd C W P T K):Bd (C.below s a.kid a.nd).C (W+2) (P+1) (T+1) (K+2)/\NdB (C.below s a.kid a.nd).ab (Z+1000):=by
 unfold Cg.below;split
 ·exact⟨(hB.spare s.page hs).mono (by omega) (by omega) (by omega) (by omega),h.lose _ (by omega)⟩
 ·split
  ·have hp:=Ej s.nd;have h1:=hn.ps;have h2:=hn.ks;constructor
   ·show Bd (C.split s.page s.nd) _ _ _ _;unfold Cg.split;split
    ·exact((hB.take.write s.page s.nd.fst (by omega) (by omega)).write C.takeZ.1 s.nd.snd (by omega) (by omega)).mono (by omega) (by omega) (by omega) (by omega)
    ·exact hB.take.mono (by omega) (by omega) (by omega) (by omega)
   ·show NdB (C.splitAb a.kid s.nd a.nd) _;unfold Cg.splitAb;split
    ·have e1:a.nd.size=4+(a.nd.ks.map kSize).sum:=by unfold Nd.size;rw[h.lf,if_neg (by simp)]
     have h3:=h.sz;have h4:=IP s.nd;have h5:=Nw a.nd.ks a.kid s.nd.mid;have h6:=h.ks;have h7:=h.kdl;have h8:=h.ps;have h9:=hn.sz;refine⟨by show a.nd.ps.length<=_;omega,by show (insAt a.nd.ks _ _).length<=_;omega,?_,?_⟩
     ·show (insAt a.nd.kd (a.kid+1) C.takeZ.1).length<=_;unfold insAt;have hl:a.nd.kd.length=(a.nd.kd.take (a.kid+1)).length+(a.nd.kd.drop (a.kid+1)).length:=by rw[<-List.length_append,List.take_append_drop]
      simp only[List.length_append,List.length_cons];omega
     ·have e2:({ a.nd with ks:=insAt a.nd.ks a.kid s.nd.mid,kd:=insAt a.nd.kd (a.kid+1) C.takeZ.1 }:Nd).size=4+((insAt a.nd.ks a.kid s.nd.mid).map kSize).sum:=by unfold Nd.size;rw[show ({ a.nd with ks:=insAt a.nd.ks a.kid s.nd.mid,kd:=insAt a.nd.kd (a.kid+1) C.takeZ.1 }:Nd).leaf=a.nd.leaf from rfl,h.lf,if_neg (by simp)]
      rw[e2];omega
    ·exact h.ndB (by omega)
  ·split
   ·unfold Cg.gather;have h2:(bts a.kid a.nd).length<=2:=by
     unfold bts;rw[List.length_append];split<;>split<;>simp
    obtain⟨i1,i2⟩:=GR h s.page s.nd Z hn (bts a.kid a.nd) none C W P T K hB (fun p hp=>by cases hp);exact⟨i1.mono (by omega) (by omega) (by omega) (by omega),i2⟩
   ·exact⟨(hB.write s.page s.nd (by have:=hn.ps;omega) (by have:=hn.ks;omega)).mono (by omega) (by omega) (by omega) (by omega),h.ndB (by omega)⟩
end Go.Proofs.YtgcgacjhkhjhmaaGreatDoor
