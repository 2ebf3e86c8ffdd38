/- Part of the proof: contracts over the turned program. -/
import Derived.Lib.SmallJoins
import Derived.Test.YtjojffepakclcaaGreatDoorRows
import Derived.Test.YtjojffepakclcaaGreatDoorX18
set_option linter.unusedVariables false
set_option maxHeartbeats 4000000
open Go.Proofs.Tryz
namespace Go.Proofs.YtjojffepakclcaaGreatDoor
open Go.ChangeShapes Go.WideShapes Go.ChangeAt Go.RowKit Go.Joins Go.Deep
theorem NM{H:Type}{d:DataW H}{l:List (DataW H)}(h:d∈l):Rows.uptoBulk d<=Rows.uptoBulkAll l:=by
 induction l with
 | nil=>cases h
 | cons e l ih =>
  simp only[Rows.uptoBulkAll];rcases List.mem_cons.1 h with rfl|h
  ·omega
  ·have:=ih h;omega
def Sts{α:Type}(f:α->Array Value)(n:Nat)(ok:α->World->Prop)(B:Nat)(w:World)(v:Value)(l:List α):Prop :=
 ∃a c,v=.slice a l.length c/\l.length<=c/\c<=maxLen/\∀i (h:i<l.length),∃b off,a=some ⟨b,off,none⟩/\b<B/\w.rangeAt b (off+i*n) (f l[i]).toList/\ok l[i] w
set_option maxRecDepth 100000 in
theorem Oq{α:Type}[Inhabited α](f:α->Array Value)(n:Nat)(hn:0<n)(hfn:∀x,(f x).size=n)(ok:α->World->Prop)(q:α->Nat->Prop)(hq:∀x i j,q x i->i<=j->q x j){t e:TypeId}(ht:prog.underlying t=some (.slice e))(hce:prog.cellsOf e=n){H:Type}{enc:TypeId × Value->H}{W:World}
  (he:∀(fuel:Nat) (cs:List Value) (x:DataW H × List MemPlace),DataW.trod enc prog W 0 (fun _=>true) true fuel e cs=some x->∃k:α,cs=(f k).toList/\ok k W/\q k (Rows.uptoBulk x.1))
  {a0:Option Addr} {len cap:Nat} {d:DataW H} {p:List MemPlace} (h:DataW.Trod enc prog W 0 (fun _=>true) true t (.slice a0 len cap) d p):∃l:List α,Sts f n ok W.heap.size W (.slice a0 len cap) l/\∀x∈l,q x (Rows.uptoBulk d):=by
 obtain⟨fuel,hf⟩:=h;rcases open_slice ht hf with ⟨hcs,hx⟩|⟨a,l,c,m,k,D,Pl,hcs,_,hl,hm,hmm,hx,hel⟩
 ·simp[Value.cells]at hcs;obtain⟨rfl,rfl,rfl⟩:=hcs;exact⟨[],⟨none,0,rfl,Nat.le_refl _,Nat.zero_le _,fun i h=>absurd h (by simp)⟩,by simp⟩
 ·simp[Value.cells]at hcs;obtain⟨rfl,rfl,rfl⟩:=hcs;simp only[if_true]at hmm;subst hmm;rw[hce]at hel;obtain⟨th,hth⟩:=choose_lt (α:=α) (n:=len) (p:=fun i x=>W.cells? 0 (a.add (i*n)) n=some (f x).toList/\ok x W/\q x (Rows.uptoBulk (D i))) (fun i hi=>by
   obtain⟨cs',h1,h2⟩:=hel i (by omega);obtain⟨x,rfl,h3,h4⟩:=he _ _ _ h2;exact⟨x,h1,h3,h4⟩)
  obtain⟨b,off,spot⟩:=a;have cells:∀i,i<len->∀j u,(f (th i)).toList[j]?=some u->W.cell? (((⟨b,off,spot⟩:Addr).add (i*n)).add j)=some u:=by
   intro i hi j u hu;have h1:=(hth i hi).1;have hj:j<n:=by have:=(List.getElem?_eq_some_iff.1 hu).1;rw[Array.length_toList,hfn]at this;exact this
   rw[(World.cells?_some h1).2.2 j hj];exact hu
  refine⟨(List.range len).map th,⟨some ⟨b,off,spot⟩,m,by simp,by simpa using hl,hm,?_⟩,?_⟩
  ·intro i hi;have hi':i<len:=by simpa using hi
   have hz:∀i,∃u,(f (th i)).toList[0]?=some u:=fun i=>⟨_,List.getElem?_eq_getElem (by rw[Array.length_toList,hfn];exact hn)⟩;obtain⟨u0,hu0⟩:=hz 0;have hspot:spot=none:=by simpa[Addr.add]using World.cell?_spot (cells 0 (by omega) 0 u0 hu0)
   subst hspot;have plain2:∀o q,(⟨b,o,none⟩:Addr).add q=⟨b,o+q,none⟩:=by intro o q;unfold Addr.add;split<;>simp_all
   have g:=cells i hi';simp only[plain2]at g;have e:((List.range len).map th)[i]=th i:=by simp
   obtain⟨ui,hui⟩:=hz i;exact⟨b,off,rfl,lt_of_cell (g 0 ui hui),by rw[e];exact g,by rw[e];exact(hth i hi').2.1⟩
  ·intro x hx';obtain⟨i,hi,rfl⟩:=List.mem_map.1 hx';have hi':i<len:=by simpa using hi
   refine hq _ _ _ (hth i hi').2.2 ?_;simp only[Prod.mk.injEq]at hx;rw[hx.1];have:=NM (List.mem_map_of_mem (f:=D) hi);simp only[Rows.uptoBulk];omega
end Go.Proofs.YtjojffepakclcaaGreatDoor
namespace Go.Proofs.YtjojffepakclcaaGreatDoor
open Go.ChangeShapes Go.WideShapes Go.ChangeAt Go.RowKit Go.Joins
theorem trod_struct3{H:Type}{enc:TypeId × Value->H}{P:Program}{w:World}{base:Nat}{spare:Nat->Bool}{held:Bool}{t:TypeId}{f0 f1 f2:Field}{fuel:Nat}{cs:List Value}{x:DataW H × List MemPlace}(ht:P.underlying t=some (.struct #[f0,f1,f2]))(h:DataW.trod enc P w base spare held fuel t cs=some x) :
  ∃y0 y1 y2 n,cs.length=P.cellsOf t/\DataW.trod enc P w base spare held n f0.type ((cs.drop f0.offset).take (P.cellsOf f0.type))=some y0 /\
   DataW.trod enc P w base spare held n f1.type ((cs.drop f1.offset).take (P.cellsOf f1.type))=some y1/\DataW.trod enc P w base spare held n f2.type ((cs.drop f2.offset).take (P.cellsOf f2.type))=some y2:=by
 obtain⟨xs,n,_,rfl,hl,hlen,hf⟩:=DataW.trod_struct ht h;match xs,hlen with
 | [y0,y1,y2],_=>exact⟨y0,y1,y2,n,hl,by simpa using hf 0 f0 rfl,by simpa using hf 1 f1 rfl,by simpa using hf 2 f2 rfl⟩
end Go.Proofs.YtjojffepakclcaaGreatDoor
