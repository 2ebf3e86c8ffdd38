/- The arguments of the law TreeScans, opened: three texts. Conditions: those that the theorem states. -/
import Derived.Test.YtjojffepakclcaaGreatDoorX41
set_option linter.unusedVariables false
set_option maxHeartbeats 4000000
open Go.Proofs.Tryz
namespace Go.Proofs.YtjojffepakclcaaGreatDoor
open Go.ChangeShapes Go.WideShapes Go.ChangeAt Go.RowKit Go.Joins
theorem cells3T:prog.cellsOf 52=3:=by kernel_rfl
set_option maxRecDepth 100000 in
theorem trod_three{H:Type}{enc:TypeId × Value->H}{W:World}{fuel:Nat}{cs:List Value}{x:DataW H × List MemPlace}(h:DataW.trod enc prog W 0 (fun _=>true) true fuel 52 cs=some x) :
  ∃(n:Nat) (xs:List (DataW H × List MemPlace)),(List.range 3).mapM (fun i=>DataW.trod enc prog W 0 (fun _=>true) true n 9 ((cs.drop (i*prog.cellsOf 9)).take (prog.cellsOf 9)))=some xs:=by
 cases fuel with
 | zero=>simp[DataW.trod]at h
 | succ n =>
  unfold DataW.trod at h;rw[underlying52]at h;split at h<;>simp_all;obtain⟨hl,xs,hp,_⟩:=h;exact⟨n,xs,hp⟩
set_option maxRecDepth 100000 in
theorem open_three{H:Type}{enc:TypeId × Value->H}{W:World}{base:Nat}{v:Value}{d:DataW H}{p:List MemPlace}(hok:Value.okWide prog W .any base 52 v)(h:DataW.Trod enc prog W 0 (fun _=>true) true 52 v d p) :
  ∃x y z:ByteArray,v=.agg #[.string x,.string y,.string z]/\x.size<=maxLen/\y.size<=maxLen/\z.size<=maxLen:=by
 have hA:∃cs,v=.agg cs/\cs.size=3:=by
  simp only[Value.okWide,underlying52]at hok;obtain⟨cs,h1,h2,_⟩:=hok;exact⟨cs,h1,by rw[h2];exact cells3T⟩
 obtain⟨cs,rfl,hsz⟩:=hA;obtain⟨fuel,hf⟩:=h;obtain⟨n,xs,hm⟩:=trod_three hf;obtain⟨l⟩:=cs;match l,hsz with
 | [c0,c1,c2],_ =>
  have g:=fun i (hi:i<3)=>mapM_some_get hm i i (by simp[List.getElem?_range hi]);have hlen:=mapM_some_length hm;rw[List.length_range]at hlen;have s0:=g 0 (by omega);have s1:=g 1 (by omega);have s2:=g 2 (by omega);rw[List.getElem?_eq_getElem (by omega)]at s0 s1 s2;obtain⟨x,e0,_,h0⟩:=DataW.trod_string underlying9 s0;obtain⟨y,e1,_,h1⟩:=DataW.trod_string underlying9 s1;obtain⟨z,e2,_,h2⟩:=DataW.trod_string underlying9 s2;simp[Value.cells,IP]at e0 e1 e2;subst e0 e1 e2
  exact⟨x,y,z,rfl,h0,h1,h2⟩
end Go.Proofs.YtjojffepakclcaaGreatDoor
