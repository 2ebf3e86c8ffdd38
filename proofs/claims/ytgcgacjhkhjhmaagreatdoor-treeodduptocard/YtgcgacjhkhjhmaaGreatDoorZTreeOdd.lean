/- TreeOdd: for every list of nodes, every number and every text, of bulk at most 1048576 together, the law TreeOdd returns true and leaves its arguments as they were: whatever a page holds, all calls end, and change nothing with an error. Conditions: the arguments hold at most 1048576 values and letters; the listed variables of the library read as its text lays them (the card ties them). -/
import Derived.Deep.DeepWitnessRowRef
import Derived.Lay
import Derived.SevenTiedAt
import Derived.Test.YtgcgacjhkhjhmaaGreatDoorCards
import Derived.Test.YtgcgacjhkhjhmaaGreatDoorTie
import Derived.Test.YtgcgacjhkhjhmaaGreatDoorZWTreeOdd
set_option linter.unusedVariables false
set_option maxHeartbeats 4000000
open Go.Proofs.Tryz
namespace Go.Proofs.YtgcgacjhkhjhmaaGreatDoor.treeOdd
open Go.ChangeShapes Go.WideShapes Go.ChangeAt Go.RowKit Go.Joins
open Go.ChangeMaps (open_string shut_string)
set_option linter.unusedSimpArgs false
theorem own:ownKnob prog.godebug=none:=by kernel_rfl
theorem laidOut:laidOutB prog=true:=by kernel_rfl
theorem bound{H:Type}{l:List (DataW H)}(hk:Rows.uptoSmall H l=true):Rows.uptoBulkAll l<=1048576:=of_decide_eq_true hk
set_option maxRecDepth 100000 in
theorem contract(H:Type)(enc:TypeId × Value->H)(W:World)(base:Nat)(args:Array Value)(ds gs:List (DataW H))(before:List MemPlace)
  (hval:∀(j:Nat) t v,Tryz.f3.params[j]?=some t->args[j]?=some v->Value.okWide prog W .any base t v)
  (hW:DataW.Whole enc prog Tryz.f3.params.toList Rows.treeOddSpec.vars false W args.toList ds gs before) (hk:Rows.uptoSmall H (ds++gs)=true) :
  Calls prog 3 args W fun e W'=>∃v,e=.returned v/\Rows.treeOddSpec.post enc prog Tryz.f3 false true false false W args v W':=by
 have hW':=hW;obtain⟨p,q,hA0,hV,rfl,hfz,hnd⟩:=hW;have hA:DataW.TrodAll enc prog W 0 (fun _=>true) true Tryz.f3.params.toList args.toList ds p:=hA0;rw[Tryz.params3]at hA hval;obtain⟨v0,vs0,d0,ds0,p0,q0,hargs,rfl,rfl,h0,r0⟩:=trodAll_cons hA;obtain⟨v1,vs1,d1,ds1,p1,q1,rfl,rfl,rfl,h1,r1⟩:=trodAll_cons r0;obtain⟨v2,vs2,d2,ds2,p2,q2,rfl,rfl,rfl,h2,r2⟩:=trodAll_cons r1;obtain⟨rfl,rfl,rfl⟩:=trodAll_nil r2;obtain rfl:args=#[v0,v1,v2]:=by cases args;simp_all
 obtain⟨rfl,rfl⟩:=trodVars_none hV;have k0:=h0;have lt0:∀x∈p0,x.block<W.heap.size:=by obtain⟨m,hm⟩:=k0;exact DataW.trod_lt m _ _ _ hm
 obtain⟨a0,len0,cap0,rfl⟩:=okWide_slice underlying22 (hval 0 22 v0 rfl rfl);obtain⟨n1,rfl,rfl,rfl,wn1⟩:=open_int underlying3 (hval 1 3 v1 rfl rfl) h1;obtain⟨s2,rfl,rfl,rfl,hs2⟩:=open_string underlying9 (hval 2 9 v2 rfl rfl) h2;clear hA0;obtain⟨l0,hO0,hB0⟩:=Kg h0;have hbd:=bound hk;have es2:s2.data.toList.length=s2.size:=by rw[Array.length_toList];rfl
 simp only[List.append_nil,Rows.uptoBulkAll,Rows.uptoBulk,es2]at hbd;refine(walk _ l0 n1 s2 W hO0 (fun n hn=>by have:=hB0 n hn;omega) (IE wn1) hs2).mono fun e W' ⟨he,hg⟩=>?_;subst he;have bel:Below W.heap.size W W':=(Below.refl _ W).grown hg (Nat.le_refl _) (by simp)
 exact⟨_,rfl,_,_,_,[],_,[],hW',trodAll_mk1 (shut_bool underlying4 _),(trodAll_cons_mk (Below.trod laidOut (by kernel_rfl) (of_decide_eq_true (by kernel_rfl)) k0 bel lt0) (trodAll_cons_mk (shut_int underlying3 wn1) (trodAll_cons_mk (shut_string underlying9 hs2) trodAll_mk0))),rfl,bel.frame _,fun h=>by cases h⟩
theorem laid_met(os:Os)(args:Array Value):laidMet prog Rows.treeOddUptoRow.laid ((World.laidAll prog os Rows.treeOddUptoRow.laid).forCall (fun _ _=>0) ⟨#[],args,[]⟩).memory :=
 laidMet_laidAll args (by kernel_rfl) (by kernel_rfl)
theorem witness_row(os:Os){H:Type}(enc:TypeId × Value->H) :
  (Rows.OpenSpec.upto Rows.treeOddSpec).preRow enc prog Tryz.f3 Rows.treeOddUptoRow.domain false Rows.treeOddUptoRow.laid ((World.laidAll prog os Rows.treeOddUptoRow.laid).forCall (fun _ _=>0) ⟨#[],#[.slice none 0 0,.int .i64 0,.string ⟨#[]⟩],[]⟩).memory #[.slice none 0 0,.int .i64 0,.string ⟨#[]⟩]:=by
 have hw:(DataW.whole enc prog ((World.laidAll prog os Rows.treeOddUptoRow.laid).forCall (fun _ _=>0) ⟨#[],#[.slice none 0 0,.int .i64 0,.string ⟨#[]⟩],[]⟩).memory Tryz.f3.params.toList (Rows.OpenSpec.upto Rows.treeOddSpec).vars false (#[Value.slice none 0 0,.int .i64 0,.string ⟨#[]⟩]).toList 8).map (fun x=>(x.1,x.2.1)) =
   some ([.nil,.lit (.int .i64 0),.lit (.string [])],[]):=by kernel_rfl
 obtain⟨⟨x1,x2,x3⟩,hx,hx1⟩:=Option.map_eq_some_iff.1 hw;simp only[Prod.mk.injEq]at hx1;obtain⟨rfl,rfl⟩:=hx1;exact OpenSpec.preRow_of_cond 8 hx (by kernel_rfl) (fun k hk=>by cases hk;kernel_rfl) (by kernel_rfl) (laid_met os _)
set_option maxRecDepth 100000 in
theorem lifted(os:Os)(started:os.Started)(H:Type)(enc:TypeId × Value->H)(F:Stop.Interp) :
  ReturnsInHanded {} Tryz.checked os 3 .any ((Rows.OpenSpec.upto Rows.treeOddSpec).preRow enc prog Tryz.f3 Rows.treeOddUptoRow.domain false Rows.treeOddUptoRow.laid) (((Rows.OpenSpec.upto Rows.treeOddSpec).at F).post enc prog Tryz.f3 false true false false):=by
 refine returnsInHanded_of_row (C:=Tryz.checked) (s:=Rows.OpenSpec.upto Rows.treeOddSpec) own started (by kernel_rfl) func3
  (witness_row_atRef (enc:=enc) (C:=Tryz.checked) false (World.laidAll prog os Rows.treeOddUptoRow.laid) #[.slice none 0 0,.int .i64 0,.string ⟨#[]⟩] (World.laidAll_os _ _ _) (by kernel_rfl) (by kernel_rfl) (by kernel_rfl) (witness_row os enc)) ?_
 intro W base args ds gs before hval hW _ hk _ _ _ _;exact contract H enc W base args ds gs before hval hW (hk _ rfl)
theorem over:Rows.treeOddUptoRow.holds Tryz.pinned (Rows.OpenSpec.upto Rows.treeOddSpec) :=
 OpenClaim.holds_of_cond 3 Tryz.f3 rfl rfl rfl rfl rfl rfl rfl ⟨rfl,rfl,rfl,rfl,rfl⟩ rfl rfl rfl rfl rfl (by kernel_rfl) func3 (by kernel_rfl)
  (of_decide_eq_true (by kernel_rfl)) (by unfold Func.isWrapper;first|(rw[if_pos (by decide +kernel)];kernel_rfl)|(rw[if_neg (by decide +kernel)];exact⟨rfl,rfl⟩))
  (fun os started H enc _ F=>by rw[OpenClaim.pre_eq_preRow];exact lifted os started H enc F)
set_option maxRecDepth 100000 in
theorem card:Rows.TreeOddUptoCardSaid :=
 Claim7.holds_tied_plain_at .later [] [.data,.pinned] true _ false
  over (fun _ h=>by cases h) (by kernel_rfl) (fun _ h=>by cases h) treeOddUpto_row_tie rfl ⟨rfl,rfl⟩ (by kernel_rfl) rfl
  (fun f fn hf hfn=>by
   obtain rfl:f=3:=Option.some.inj ((show prog.funcNamed Rows.treeOddUptoRow.func=some 3 by kernel_rfl).symm.trans hf) |>.symm
   obtain rfl:fn=Tryz.f3:=(Option.some.inj (func3.symm.trans hfn)).symm
   exact⟨by kernel_rfl,fun j t ht=>by
    rw[Tryz.params3]at ht
    rcases j with _|j
    ·obtain rfl:t=22:=by simpa using ht.symm
     exact(show prog.wantsStandIn 22=false by kernel_rfl)
    rcases j with _|j
    ·obtain rfl:t=3:=by simpa using ht.symm
     exact(show prog.wantsStandIn 3=false by kernel_rfl)
    rcases j with _|j
    ·obtain rfl:t=9:=by simpa using ht.symm
     exact(show prog.wantsStandIn 9=false by kernel_rfl)
    simp at ht⟩)
  (by kernel_rfl)
end Go.Proofs.YtgcgacjhkhjhmaaGreatDoor.treeOdd
namespace Go.Proofs.YtgcgacjhkhjhmaaGreatDoor
theorem treeOddUptoCard_holds:Rows.TreeOddUptoCardSaid:=treeOdd.card
end Go.Proofs.YtgcgacjhkhjhmaaGreatDoor
namespace Go.Proofs.YtgcgacjhkhjhmaaGreatDoor
#print axioms treeOddUptoCard_holds
end Go.Proofs.YtgcgacjhkhjhmaaGreatDoor
