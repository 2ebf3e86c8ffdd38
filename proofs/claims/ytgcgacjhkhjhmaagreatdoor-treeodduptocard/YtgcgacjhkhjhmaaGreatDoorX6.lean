/- Part of the proof: contracts over the turned program. -/
import Derived.Deep.SlicePairs
import Derived.Lib.SmallJoins
import Derived.Test.YtgcgacjhkhjhmaaGreatDoorRows
import Derived.Test.YtgcgacjhkhjhmaaGreatDoorX1
set_option linter.unusedVariables false
set_option maxHeartbeats 4000000
open Go.Proofs.Tryz
namespace Go.Proofs.YtgcgacjhkhjhmaaGreatDoor
open Go.ChangeShapes Go.WideShapes Go.ChangeAt Go.RowKit Go.Joins Go.Deep
theorem LF{H:Type}(d:DataW H):1<=Rows.uptoBulk d:=by
 cases d with
 | lit l=>cases l<;>simp[Rows.uptoBulk]
 | nil=>simp[Rows.uptoBulk]
 | ptr d=>simp[Rows.uptoBulk]
 | slice a b=>simp[Rows.uptoBulk]
 | agg a=>simp[Rows.uptoBulk]
 | iface a b=>simp[Rows.uptoBulk]
 | map a=>simp[Rows.uptoBulk]
 | held a=>simp[Rows.uptoBulk]
theorem F8{H:Type}(l:List (DataW H)):l.length<=Rows.uptoBulkAll l:=by
 induction l with
 | nil=>simp
 | cons d l ih =>
  have:=LF d;simp only[List.length_cons,Rows.uptoBulkAll];omega
theorem LE{H:Type}{d:DataW H}{l:List (DataW H)}(h:d∈l):Rows.uptoBulk d<=Rows.uptoBulkAll l:=by
 induction l with
 | nil=>cases h
 | cons e l ih =>
  simp only[Rows.uptoBulkAll];rcases List.mem_cons.1 h with rfl|h
  ·omega
  ·have:=ih h;omega
theorem IE{n:Int}(h:(Lit.int .i64 n).wf=true):-9223372036854775808<=n/\n<9223372036854775808:=by
 simp[Lit.wf,IntKind.min,IntKind.max,IntKind.signed,IntKind.bits]at h;omega
set_option maxRecDepth 100000 in
theorem Eb{H:Type}(f:Nat->Nat)(D:Nat->DataW H):∀l:List Nat,(∀i∈l,f i<=Rows.uptoBulk (D i))->(l.map f).sum<=Rows.uptoBulkAll (l.map D)
 | [],_=>by simp
 | x::l,h=>by
  have h1:=h x List.mem_cons_self
  have h2:=Eb f D l (fun i hi=>h i (List.mem_cons_of_mem _ hi))
  simp only[List.map_cons,List.sum_cons,Rows.uptoBulkAll]
  omega
theorem DQ{α:Type}[Inhabited α](f:α->Value)(q:α->Prop)(wt:α->Nat){t e:TypeId}(ht:prog.underlying t=some (.slice e))(hce:prog.cellsOf e=1){H:Type}{enc:TypeId × Value->H}{W:World}
  (he:∀(fuel:Nat) (cs:List Value) (x:DataW H × List MemPlace),DataW.trod enc prog W 0 (fun _=>true) true fuel e cs=some x->∃k:α,cs=[f k]/\q k/\wt k<=Rows.uptoBulk x.1)
  {fuel:Nat} {cs:List Value} {x:DataW H × List MemPlace} (h:DataW.trod enc prog W 0 (fun _=>true) true fuel t cs=some x):∃(v:Value) (l:List α),cs=[v]/\Sl f W.heap.size W v l/\(∀z∈l,q z)/\(l.map wt).sum<=Rows.uptoBulk x.1/\l.length<=Rows.uptoBulk x.1:=by
 rcases open_slice ht h with ⟨hcs,hx⟩|⟨a,len,c,m,n,D,Pl,hcs,_,hl,hm,hmm,hx,hel⟩
 ·exact⟨_,[],hcs,Sl.nil _ _ _,by simp,by simp,by simp⟩
 ·simp only[if_true]at hmm;subst hmm;rw[hce]at hel;obtain⟨th,hth⟩:=choose_lt (α:=α) (n:=len) (p:=fun i k=>W.cells? 0 (a.add (i*1)) 1=some [f k]/\q k/\wt k<=Rows.uptoBulk (D i)) (fun i hi=>by
   obtain⟨cs',h1,h2⟩:=hel i (by omega);obtain⟨k,e0,hq,hw⟩:=he _ _ _ h2;subst e0;exact⟨k,h1,hq,hw⟩)
  obtain⟨b,off,spot⟩:=a;have cells:∀i,i<len->W.cell? (((⟨b,off,spot⟩:Addr).add (i*1)).add 0)=some (f (th i)):=by
   intro i hi;rw[(World.cells?_some (hth i hi).1).2.2 0 (by omega)];rfl
  refine⟨_,(List.range len).map th,hcs,⟨some ⟨b,off,spot⟩,m,by simp,by simpa using hl,hm,?_⟩,?_,?_,?_⟩
  ·intro i hi;have hi':i<len:=by simpa using hi
   have hspot:spot=none:=by simpa[Addr.add]using World.cell?_spot (cells 0 (by omega))
   subst hspot;have plain2:∀o q,(⟨b,o,none⟩:Addr).add q=⟨b,o+q,none⟩:=by intro o q;unfold Addr.add;split<;>simp_all
   have g:=cells i hi';simp only[plain2,Nat.mul_one,Nat.add_zero]at g;have e:((List.range len).map th)[i]=th i:=by simp
   exact⟨b,off,rfl,lt_of_cell g,by rw[e];exact g⟩
  ·intro z hz;obtain⟨i,hi,rfl⟩:=List.mem_map.1 hz;exact(hth i (by simpa using hi)).2.1
  ·rw[hx,List.map_map];have:=Eb (fun i=>wt (th i)) D (List.range len) (fun i hi=>(hth i (by simpa using hi)).2.2);simp only[Rows.uptoBulk];have e:(List.map (wt ∘ th) (List.range len)).sum=(List.map (fun i=>wt (th i)) (List.range len)).sum:=rfl;omega
  ·rw[hx];have:=F8 ((List.range len).map D);simp only[Rows.uptoBulk,List.length_map,List.length_range]at this |-;omega
theorem F1{H:Type}{enc:TypeId × Value->H}{P:Program}{w:World}{base:Nat}{spare:Nat->Bool}{held:Bool}{t:TypeId}{f0 f1 f2 f3:Field}{fuel:Nat}{cs:List Value}{x:DataW H × List MemPlace}(ht:P.underlying t=some (.struct #[f0,f1,f2,f3]))(h:DataW.trod enc P w base spare held fuel t cs=some x) :
  ∃y0 y1 y2 y3 n,cs.length=P.cellsOf t/\DataW.trod enc P w base spare held n f0.type ((cs.drop f0.offset).take (P.cellsOf f0.type))=some y0 /\
   DataW.trod enc P w base spare held n f1.type ((cs.drop f1.offset).take (P.cellsOf f1.type))=some y1/\DataW.trod enc P w base spare held n f2.type ((cs.drop f2.offset).take (P.cellsOf f2.type))=some y2 /\
   DataW.trod enc P w base spare held n f3.type ((cs.drop f3.offset).take (P.cellsOf f3.type))=some y3/\x.1=.agg [y0.1,y1.1,y2.1,y3.1]:=by
 obtain⟨xs,n,_,rfl,hl,hlen,hf⟩:=DataW.trod_struct ht h;match xs,hlen with
 | [y0,y1,y2,y3],_=>exact⟨y0,y1,y2,y3,n,hl,by simpa using hf 0 f0 rfl,by simpa using hf 1 f1 rfl,by simpa using hf 2 f2 rfl,by simpa using hf 3 f3 rfl,rfl⟩
theorem JG:prog.cellsOf 92=2:=by kernel_rfl
theorem E2:prog.cellsOf 35=4:=by kernel_rfl
theorem Im:prog.cellsOf 9=1:=by kernel_rfl
theorem MT:prog.cellsOf 4=1:=by kernel_rfl
theorem MV:prog.cellsOf 31=1:=by kernel_rfl
theorem MW:prog.cellsOf 32=1:=by kernel_rfl
theorem MU:prog.cellsOf 33=1:=by kernel_rfl
theorem N1{H:Type}{enc:TypeId × Value->H}{W:World}{fuel:Nat}{cs:List Value}{x:DataW H × List MemPlace}(h:DataW.trod enc prog W 0 (fun _=>true) true fuel 31 cs=some x) :
  ∃(v:Value) (l:List Pr),cs=[v]/\Prs W.heap.size W v l/\(∀p∈l,p.k.size<=maxLen/\p.v.size<=maxLen)/\(l.map Pr.size).sum<=Rows.uptoBulk x.1/\l.length<=Rows.uptoBulk x.1:=by
 rcases open_slice_pairs underlying31 underlying92 JG rfl rfl Im Im h with ⟨hcs,hx⟩|⟨a,len,c,m,n,V0,V1,D0,D1,P0,P1,hcs,_,hl,hm,hmm,hx,hel⟩
 ·exact⟨_,[],hcs,Prs.nil _ _,by simp,by simp,by simp⟩
 ·simp only[if_true]at hmm;subst hmm;haveI:Inhabited Pr:=⟨⟨ByteArray.empty,ByteArray.empty⟩⟩;obtain⟨th,hth⟩:=choose_lt (α:=Pr) (n:=len) (p:=fun i p=>W.cell? (a.add (i*2))=some (.string p.k)/\W.cell? (a.add (i*2+1))=some (.string p.v)/\(p.k.size<=maxLen/\p.v.size<=maxLen)/\p.size<=Rows.uptoBulk (.agg [D0 i,D1 i]:DataW H)) (fun i hi=>by
   obtain⟨h1,h2,h3,h4⟩:=hel i (by omega);obtain⟨k,e0,f0,w0⟩:=DataW.trod_string underlying9 h3;obtain⟨v,e1,f1,w1⟩:=DataW.trod_string underlying9 h4;simp at e0 e1;rw[e0]at h1;rw[e1]at h2;refine⟨⟨k,v⟩,h1,h2,⟨w0,w1⟩,?_⟩;simp only[Prod.mk.injEq]at f0 f1;rw[f0.1,f1.1];simp only[Rows.uptoBulk,Rows.uptoBulkAll,Av];show 2+k.size+v.size<=_;omega)
  obtain⟨b,off,spot⟩:=a;refine⟨_,(List.range len).map th,hcs,⟨some ⟨b,off,spot⟩,m,by simp,by simpa using hl,hm,?_⟩,?_,?_,?_⟩
  ·intro i hi;have hi':i<len:=by simpa using hi
   have hspot:spot=none:=by simpa[Addr.add]using World.cell?_spot (hth 0 (by omega)).1
   subst hspot;have plain2:∀o q,(⟨b,o,none⟩:Addr).add q=⟨b,o+q,none⟩:=by intro o q;unfold Addr.add;split<;>simp_all
   have g:=hth i hi';simp only[plain2]at g;have e:((List.range len).map th)[i]=th i:=by simp
   refine⟨b,off,rfl,lt_of_cell g.1,by rw[e];exact g.1,by rw[e];exact g.2.1⟩
  ·intro z hz;obtain⟨i,hi,rfl⟩:=List.mem_map.1 hz;exact(hth i (by simpa using hi)).2.2.1
  ·rw[hx,List.map_map];have:=Eb (fun i=>(th i).size) (fun i=>(.agg [D0 i,D1 i]:DataW H)) (List.range len) (fun i hi=>(hth i (by simpa using hi)).2.2.2);simp only[Rows.uptoBulk];have e:(List.map (Pr.size ∘ th) (List.range len)).sum=(List.map (fun i=>(th i).size) (List.range len)).sum:=rfl;omega
  ·rw[hx];have:=F8 ((List.range len).map fun i=>(DataW.agg [D0 i,D1 i]:DataW H));simp only[Rows.uptoBulk,List.length_map,List.length_range]at this |-;omega
def Nds(B:Nat)(w:World)(v:Value)(l:List Nd):Prop :=
 ∃a c,v=.slice a l.length c/\l.length<=c/\c<=maxLen/\∀i (h:i<l.length),∃b off pv kv dv,a=some ⟨b,off,none⟩/\b<B /\
  w.cell? ⟨b,off+i*4,none⟩=some (.bool l[i].leaf)/\w.cell? ⟨b,off+i*4+1,none⟩=some pv/\w.cell? ⟨b,off+i*4+2,none⟩=some kv/\w.cell? ⟨b,off+i*4+3,none⟩=some dv /\
  (pv.oneCell'=true/\kv.oneCell'=true/\dv.oneCell'=true)/\Nv B w (.agg #[.bool l[i].leaf,pv,kv,dv]) l[i]
theorem Prs.oneC{B:Nat}{w:World}{v:Value}{l:List Pr}(h:Prs B w v l):v.oneCell'=true:=by obtain⟨a,c,rfl,_⟩:=h;rfl
theorem Sl.oneC{α:Type}{f:α->Value}{B:Nat}{w:World}{v:Value}{l:List α}(h:Sl f B w v l):v.oneCell'=true:=by obtain⟨a,c,rfl,_⟩:=h;rfl
set_option maxRecDepth 100000 in
theorem Kf{H:Type}{enc:TypeId × Value->H}{W:World}{fuel:Nat}{cs:List Value}{x:DataW H × List MemPlace}(hf:DataW.trod enc prog W 0 (fun _=>true) true fuel 35 cs=some x) :
  ∃(n:Nd) (pv kv dv:Value),cs=[.bool n.leaf,pv,kv,dv]/\(pv.oneCell'=true/\kv.oneCell'=true/\dv.oneCell'=true)/\Nv W.heap.size W (.agg #[.bool n.leaf,pv,kv,dv]) n/\n.ps.length<=Rows.uptoBulk x.1/\n.ks.length<=Rows.uptoBulk x.1:=by
 obtain⟨y0,y1,y2,y3,n,hl,h0,h1,h2,h3,hd⟩:=F1 underlying35 hf;rw[E2]at hl;obtain⟨lf,e0,_⟩:=DataW.trod_bool underlying4 h0;obtain⟨pv,ps,e1,hP,hpw,hs1,hb1⟩:=N1 h1;obtain⟨kv,ks,e2,hS,hkw,hs2,hb2⟩:=DQ Value.string (fun s=>s.size<=maxLen) (fun s=>s.size+1) underlying32 (by kernel_rfl) (fun fuel cs x hx=>by
  obtain⟨k,e0,f0,hw⟩:=DataW.trod_string underlying9 hx;refine⟨k,e0,hw,?_⟩;rw[f0];simp only[Rows.uptoBulk,Av];omega) h2
 obtain⟨dv,kd,e3,hD,hdw,_,hb3⟩:=DQ (Value.int .i64) (fun z=>-9223372036854775808<=z/\z<9223372036854775808) (fun _=>0) underlying33 (by kernel_rfl) (fun fuel cs x hx=>by
  obtain⟨k,e0,_,hw⟩:=DataW.trod_int underlying3 hx;exact⟨k,e0,IE hw,Nat.zero_le _⟩) h3
 match cs,hl with
 | [c0,c1,c2,c3],_ =>
  simp[MT,MV,MW,MU]at e0 e1 e2 e3;subst e0 e1 e2 e3;refine⟨⟨lf,ps,ks,kd⟩,c1,c2,c3,rfl,⟨hP.oneC,hS.oneC,hD.oneC⟩,⟨⟨c1,c2,c3,rfl,hP,hS,hD⟩,⟨hpw,hkw,hdw⟩⟩,?_,?_⟩
  ·rw[hd];simp only[Rows.uptoBulk,Rows.uptoBulkAll];omega
  ·rw[hd];simp only[Rows.uptoBulk,Rows.uptoBulkAll];omega
set_option maxRecDepth 100000 in
theorem Kg{H:Type}{enc:TypeId × Value->H}{W:World}{a0:Option Addr}{len cap:Nat}{d:DataW H}{p:List MemPlace}(h:DataW.Trod enc prog W 0 (fun _=>true) true 22 (.slice a0 len cap) d p) :
  ∃l:List Nd,Nds W.heap.size W (.slice a0 len cap) l/\∀n∈l,n.ps.length<=Rows.uptoBulk d/\n.ks.length<=Rows.uptoBulk d:=by
 obtain⟨fuel,hf⟩:=h;rcases open_slice underlying22 hf with ⟨hcs,hx⟩|⟨a,l,c,m,n,D,Pl,hcs,_,hl,hm,hmm,hx,hel⟩
 ·simp[Value.cells]at hcs;obtain⟨rfl,rfl,rfl⟩:=hcs;exact⟨[],⟨none,0,rfl,Nat.le_refl _,Nat.zero_le _,fun i h=>absurd h (by simp)⟩,by simp⟩
 ·simp[Value.cells]at hcs;obtain⟨rfl,rfl,rfl⟩:=hcs;simp only[if_true]at hmm;subst hmm;rw[E2]at hel;haveI:Inhabited Nd:=⟨⟨false,[],[],[]⟩⟩;obtain⟨th,hth⟩:=choose_lt (α:=Nd) (n:=len) (p:=fun i x=>∃pv kv dv,W.cells? 0 (a.add (i*4)) 4=some [.bool x.leaf,pv,kv,dv]/\(pv.oneCell'=true/\kv.oneCell'=true/\dv.oneCell'=true)/\Nv W.heap.size W (.agg #[.bool x.leaf,pv,kv,dv]) x/\x.ps.length<=Rows.uptoBulk (D i)/\x.ks.length<=Rows.uptoBulk (D i)) (fun i hi=>by
   obtain⟨cs',h1,h2⟩:=hel i (by omega);obtain⟨x,pv,kv,dv,rfl,h3,h4,h5,h6⟩:=Kf h2;exact⟨x,pv,kv,dv,h1,h3,h4,h5,h6⟩)
  obtain⟨b,off,spot⟩:=a;have plain2:∀o q,(⟨b,o,none⟩:Addr).add q=⟨b,o+q,none⟩:=by intro o q;unfold Addr.add;split<;>simp_all
  have cells:∀i,i<len->∃pv kv dv,(∀j u,([.bool (th i).leaf,pv,kv,dv]:List Value)[j]?=some u->W.cell? (((⟨b,off,spot⟩:Addr).add (i*4)).add j)=some u)/\(pv.oneCell'=true/\kv.oneCell'=true/\dv.oneCell'=true)/\Nv W.heap.size W (.agg #[.bool (th i).leaf,pv,kv,dv]) (th i):=by
   intro i hi;obtain⟨pv,kv,dv,h1,h2,h3,_⟩:=hth i hi;refine⟨pv,kv,dv,fun j u hu=>?_,h2,h3⟩;have hj:j<4:=by have:=(List.getElem?_eq_some_iff.1 hu).1;simpa using this
   rw[(World.cells?_some h1).2.2 j hj];exact hu
  refine⟨(List.range len).map th,⟨some ⟨b,off,spot⟩,m,by simp,by simpa using hl,hm,?_⟩,?_⟩
  ·intro i hi;have hi':i<len:=by simpa using hi
   have hspot:spot=none:=by
    obtain⟨_,_,_,hc,_⟩:=cells 0 (by omega);simpa[Addr.add]using World.cell?_spot (hc 0 _ rfl)
   subst hspot;obtain⟨pv,kv,dv,g,h2,h3⟩:=cells i hi';simp only[plain2]at g;have e:((List.range len).map th)[i]=th i:=by simp
   rw[e];exact⟨b,off,pv,kv,dv,rfl,lt_of_cell (g 0 _ rfl),g 0 _ rfl,g 1 _ rfl,g 2 _ rfl,g 3 _ rfl,h2,h3⟩
  ·intro x hx';obtain⟨i,hi,rfl⟩:=List.mem_map.1 hx';obtain⟨_,_,_,_,_,_,h5,h6⟩:=hth i (by simpa using hi);have hb:Rows.uptoBulk (D i)<=Rows.uptoBulk d:=by
    simp only[Prod.mk.injEq]at hx;rw[hx.1];have:=LE (d:=D i) (l:=(List.range len).map D) (List.mem_map.2 ⟨i,hi,rfl⟩);simp only[Rows.uptoBulk];omega
   exact⟨Nat.le_trans h5 hb,Nat.le_trans h6 hb⟩
theorem Nds.keptN{B:Nat}{w w':World}{v:Value}{l:List Nd}(h:Nds B w v l)(hk:Kp none' w w'):Nds B w' v l:=by
 obtain⟨a,c,rfl,h1,h2,h3⟩:=h;refine⟨a,c,rfl,h1,h2,fun i hi=>?_⟩;obtain⟨b,off,pv,kv,dv,rfl,hb,c0,c1,c2,c3,ho,hN⟩:=h3 i hi;exact⟨b,off,pv,kv,dv,rfl,hb,hk.cell c0 (fun h=>h),hk.cell c1 (fun h=>h),hk.cell c2 (fun h=>h),hk.cell c3 (fun h=>h),ho,hN.keptN hk⟩
end Go.Proofs.YtgcgacjhkhjhmaaGreatDoor
