/- TreeScans: whatever the number, the steps and the three texts are, the law TreeScans returns true and leaves its arguments as they were: the pairs of a range are those of all that are in it, in order; a range cut at a key is both parts. No conditions. -/
import Derived.Deep.DeepWitnessRowRef
import Derived.Lay
import Derived.SevenTiedAt
import Derived.Test.YtjojffepakclcaaGreatDoorCards
import Derived.Test.YtjojffepakclcaaGreatDoorTie
import Derived.Test.YtjojffepakclcaaGreatDoorZTOpen3
import Derived.Test.YtjojffepakclcaaGreatDoorZWTreeScans
set_option linter.unusedVariables false
set_option maxHeartbeats 4000000
open Go.Proofs.Tryz
namespace Go.Proofs.YtjojffepakclcaaGreatDoor.treeScans
open Go.ChangeShapes Go.WideShapes Go.ChangeAt Go.RowKit Go.Joins
open Go.ChangeMaps (open_string shut_string)
set_option linter.unusedSimpArgs false
theorem own:ownKnob prog.godebug=none:=by kernel_rfl
theorem laidOut:laidOutB prog=true:=by kernel_rfl
set_option maxRecDepth 100000 in
theorem contract(H:Type)(enc:TypeId × Value->H)(W:World)(base:Nat)(args:Array Value)(ds gs:List (DataW H))(before:List MemPlace)
  (hval:∀(j:Nat) t v,Tryz.f5.params[j]?=some t->args[j]?=some v->Value.okWide prog W .any base t v)
  (hW:DataW.Whole enc prog Tryz.f5.params.toList Rows.treeScansSpec.vars false W args.toList ds gs before) :
  Calls prog 5 args W fun e W'=>∃v,e=.returned v/\Rows.treeScansSpec.post enc prog Tryz.f5 false true false false W args v W':=by
 have hW':=hW;obtain⟨p,q,hA0,hV,rfl,hfz,hnd⟩:=hW;have hA:DataW.TrodAll enc prog W 0 (fun _=>true) true Tryz.f5.params.toList args.toList ds p:=hA0;rw[Tryz.params5]at hA hval;obtain⟨v0,vs0,d0,ds0,p0,q0,hargs,rfl,rfl,h0,r0⟩:=trodAll_cons hA;obtain⟨v1,vs1,d1,ds1,p1,q1,rfl,rfl,rfl,h1,r1⟩:=trodAll_cons r0;obtain⟨v2,vs2,d2,ds2,p2,q2,rfl,rfl,rfl,h2,r2⟩:=trodAll_cons r1;obtain⟨rfl,rfl,rfl⟩:=trodAll_nil r2;obtain rfl:args=#[v0,v1,v2]:=by cases args;simp_all
 obtain⟨rfl,rfl⟩:=trodVars_none hV;have k1:=h1;have lt1:∀x∈p1,x.block<W.heap.size:=by obtain⟨m,hm⟩:=k1;exact DataW.trod_lt m _ _ _ hm
 have k2:=h2;have lt2:∀x∈p2,x.block<W.heap.size:=by obtain⟨m,hm⟩:=k2;exact DataW.trod_lt m _ _ _ hm
 obtain⟨n0,rfl,rfl,rfl,wn0⟩:=open_int underlying3 (hval 0 3 v0 rfl rfl) h0;obtain⟨a1,len1,cap1,rfl⟩:=okWide_slice underlying22 (hval 1 22 v1 rfl rfl);obtain⟨x2,y2,z2,rfl,hx2,hy2,hz2⟩:=open_three (hval 2 52 v2 rfl rfl) h2;clear hA0;obtain⟨l1,hO1⟩:=BA h1;refine(walk n0 a1 len1 cap1 l1 x2 y2 z2 W hO1 hx2 hy2 hz2).mono fun e W' ⟨he,hg⟩=>?_;subst he;have bel:Below W.heap.size W W':=(Below.refl _ W).grown hg (Nat.le_refl _) (by simp)
 exact⟨_,rfl,_,_,_,[],_,[],hW',trodAll_mk1 (shut_bool underlying4 _),(trodAll_cons_mk (shut_int underlying3 wn0) (trodAll_cons_mk (Below.trod laidOut (by kernel_rfl) (of_decide_eq_true (by kernel_rfl)) k1 bel lt1) (trodAll_cons_mk (Below.trod laidOut (by kernel_rfl) (of_decide_eq_true (by kernel_rfl)) k2 bel lt2) trodAll_mk0))),rfl,bel.frame _,fun h=>by cases h⟩
theorem laid_met(os:Os)(args:Array Value):laidMet prog Rows.treeScansRow.laid ((World.laidAll prog os Rows.treeScansRow.laid).forCall (fun _ _=>0) ⟨#[],args,[]⟩).memory :=
 laidMet_laidAll args (by kernel_rfl) (by kernel_rfl)
theorem witness_row(os:Os){H:Type}(enc:TypeId × Value->H) :
  (OpenSpec.ofChange Rows.treeScansSpec).preRow enc prog Tryz.f5 Rows.treeScansRow.domain false Rows.treeScansRow.laid ((World.laidAll prog os Rows.treeScansRow.laid).forCall (fun _ _=>0) ⟨#[],#[.int .i64 0,.slice none 0 0,.agg #[.string ⟨#[]⟩,.string ⟨#[]⟩,.string ⟨#[]⟩]],[]⟩).memory #[.int .i64 0,.slice none 0 0,.agg #[.string ⟨#[]⟩,.string ⟨#[]⟩,.string ⟨#[]⟩]]:=by
 have hw:(DataW.whole enc prog ((World.laidAll prog os Rows.treeScansRow.laid).forCall (fun _ _=>0) ⟨#[],#[.int .i64 0,.slice none 0 0,.agg #[.string ⟨#[]⟩,.string ⟨#[]⟩,.string ⟨#[]⟩]],[]⟩).memory Tryz.f5.params.toList (OpenSpec.ofChange Rows.treeScansSpec).vars false (#[Value.int .i64 0,.slice none 0 0,.agg #[.string ⟨#[]⟩,.string ⟨#[]⟩,.string ⟨#[]⟩]]).toList 8).map (fun x=>(x.1,x.2.1)) =
   some ([.lit (.int .i64 0),.nil,.agg [.lit (.string []),.lit (.string []),.lit (.string [])]],[]):=by kernel_rfl
 obtain⟨⟨x1,x2,x3⟩,hx,hx1⟩:=Option.map_eq_some_iff.1 hw;simp only[Prod.mk.injEq]at hx1;obtain⟨rfl,rfl⟩:=hx1;exact OpenSpec.preRow_of_cond 8 hx (by kernel_rfl) (fun k hk=>by cases hk) (by kernel_rfl) (laid_met os _)
set_option maxRecDepth 100000 in
theorem lifted(os:Os)(started:os.Started)(H:Type)(enc:TypeId × Value->H)(F:Stop.Interp) :
  ReturnsInHanded {} Tryz.checked os 5 .any ((OpenSpec.ofChange Rows.treeScansSpec).preRow enc prog Tryz.f5 Rows.treeScansRow.domain false Rows.treeScansRow.laid) (((OpenSpec.ofChange Rows.treeScansSpec).at F).post enc prog Tryz.f5 false true false false):=by
 refine returnsInHanded_of_row (C:=Tryz.checked) (s:=OpenSpec.ofChange Rows.treeScansSpec) own started (by kernel_rfl) func5
  (witness_row_atRef (enc:=enc) (C:=Tryz.checked) false (World.laidAll prog os Rows.treeScansRow.laid) #[.int .i64 0,.slice none 0 0,.agg #[.string ⟨#[]⟩,.string ⟨#[]⟩,.string ⟨#[]⟩]] (World.laidAll_os _ _ _) (by kernel_rfl) (by kernel_rfl) (by kernel_rfl) (witness_row os enc)) ?_
 intro W base args ds gs before hval hW _ hk _ _ _ _;exact contract H enc W base args ds gs before hval hW
theorem over:Rows.treeScansRow.holds Tryz.pinned (OpenSpec.ofChange Rows.treeScansSpec) :=
 OpenClaim.holds_of_cond 5 Tryz.f5 rfl rfl rfl rfl rfl rfl rfl ⟨rfl,rfl,rfl,rfl,rfl⟩ rfl rfl rfl rfl rfl (by kernel_rfl) func5 (by kernel_rfl)
  (of_decide_eq_true (by kernel_rfl)) (by unfold Func.isWrapper;first|(rw[if_pos (by decide +kernel)];kernel_rfl)|(rw[if_neg (by decide +kernel)];exact⟨rfl,rfl⟩))
  (fun os started H enc _ F=>by rw[OpenClaim.pre_eq_preRow];exact lifted os started H enc F)
set_option maxRecDepth 100000 in
theorem card:Rows.TreeScansCardSaid :=
 Claim7.holds_tied_plain_at .later [] [.data,.pinned] true _ false
  over (fun _ h=>by cases h) (by kernel_rfl) (fun _ h=>by cases h) treeScans_row_tie rfl ⟨rfl,rfl⟩ (by kernel_rfl) rfl
  (fun f fn hf hfn=>by
   obtain rfl:f=5:=Option.some.inj ((show prog.funcNamed Rows.treeScansRow.func=some 5 by kernel_rfl).symm.trans hf) |>.symm
   obtain rfl:fn=Tryz.f5:=(Option.some.inj (func5.symm.trans hfn)).symm
   exact⟨by kernel_rfl,fun j t ht=>by
    rw[Tryz.params5]at ht
    rcases j with _|j
    ·obtain rfl:t=3:=by simpa using ht.symm
     exact(show prog.wantsStandIn 3=false by kernel_rfl)
    rcases j with _|j
    ·obtain rfl:t=22:=by simpa using ht.symm
     exact(show prog.wantsStandIn 22=false by kernel_rfl)
    rcases j with _|j
    ·obtain rfl:t=52:=by simpa using ht.symm
     exact(show prog.wantsStandIn 52=false by kernel_rfl)
    simp at ht⟩)
  (by kernel_rfl)
end Go.Proofs.YtjojffepakclcaaGreatDoor.treeScans
namespace Go.Proofs.YtjojffepakclcaaGreatDoor
theorem treeScansCard_holds:Rows.TreeScansCardSaid:=treeScans.card
end Go.Proofs.YtjojffepakclcaaGreatDoor
namespace Go.Proofs.YtjojffepakclcaaGreatDoor
#print axioms treeScansCard_holds
end Go.Proofs.YtjojffepakclcaaGreatDoor
