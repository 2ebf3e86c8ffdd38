/- Part of the proof: contracts over the turned program. -/
import Derived.Test.YtjojffepakclcaaGreatDoorX40
import Derived.Test.YtjojffepakclcaaGreatDoorX39
set_option linter.unusedVariables false
set_option maxHeartbeats 4000000
open Go.Proofs.Tryz
namespace Go.Proofs.YtjojffepakclcaaGreatDoor
open Go.ChangeShapes Go.WideShapes Go.ChangeAt Go.RowKit Go.Joins
def Top.cells(o:Top):Array Value:=#[.string o.k,.string o.v,.bool o.g]
def Top.ok(o:Top):Prop:=o.k.size<=maxLen/\o.v.size<=maxLen
theorem Ic:prog.cellsOf 47=3:=by kernel_rfl
theorem IP:prog.cellsOf 9=1:=by kernel_rfl
theorem MU:prog.cellsOf 4=1:=by kernel_rfl
set_option maxRecDepth 100000 in
theorem MC{H:Type}{enc:TypeId × Value->H}{W:World}{fuel:Nat}{cs:List Value}{x:DataW H × List MemPlace}(h:DataW.trod enc prog W 0 (fun _=>true) true fuel 47 cs=some x) :
  ∃o:Top,cs=o.cells.toList/\o.ok:=by
 obtain⟨y0,y1,y2,n,hl,h0,h1,h2⟩:=trod_struct3 underlying47 h;rw[Ic]at hl;match cs,hl with
 | [c0,c1,c2],_ =>
  obtain⟨k,e0,_,hw0⟩:=DataW.trod_string underlying9 h0;obtain⟨v,e1,_,hw1⟩:=DataW.trod_string underlying9 h1;obtain⟨g,e2,_⟩:=DataW.trod_bool underlying4 h2;simp[IP,MU]at e0 e1 e2;subst e0 e1 e2;exact⟨⟨k,v,g⟩,rfl,hw0,hw1⟩
set_option maxRecDepth 100000 in
theorem BA{H:Type}{enc:TypeId × Value->H}{W:World}{a0:Option Addr}{len cap:Nat}{d:DataW H}{p:List MemPlace}(h:DataW.Trod enc prog W 0 (fun _=>true) true 22 (.slice a0 len cap) d p) :
  ∃l:List Top,Tops W.heap.size W (.slice a0 len cap) l:=by
 haveI:Inhabited Top:=⟨⟨⟨#[]⟩,⟨#[]⟩,false⟩⟩;obtain⟨l,hl,_⟩:=Oq Top.cells 3 (by omega) (fun _=>rfl) (fun o _=>o.ok) (fun _ _=>True) (fun _ _ _ _ _=>trivial) underlying22 Ic (fun fuel cs x hx=>by
  obtain⟨c,h1,h2⟩:=MC hx;exact⟨c,h1,h2,trivial⟩) h
 obtain⟨a,c,e,h1,h2,h3⟩:=hl;refine⟨l,a,c,e,h1,h2,fun i hi=>?_⟩;obtain⟨b,off,ha,hb,hr,hk⟩:=h3 i hi;exact⟨b,off,ha,hb,hr 0 _ rfl,hr 1 _ rfl,hr 2 _ rfl,hk.1,hk.2⟩
end Go.Proofs.YtjojffepakclcaaGreatDoor
