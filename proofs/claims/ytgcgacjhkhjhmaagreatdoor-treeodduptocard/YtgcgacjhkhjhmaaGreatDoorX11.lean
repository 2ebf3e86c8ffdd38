/- Part of the proof: contracts over the turned program. -/
import Derived.Test.YtgcgacjhkhjhmaaGreatDoorX10
set_option linter.unusedVariables false
set_option maxHeartbeats 4000000
open Go.Proofs.Tryz
namespace Go.Proofs.YtgcgacjhkhjhmaaGreatDoor
open Go Go.RowKit
set_option maxRecDepth 100000 in
theorem F0(v:Value)(ps:List Pr)(B:Nat)(w:World)(hP:Prs B w v ps)(hB:B<=w.heap.size)(h2:2<=ps.length)(hs:(ps.map Pr.size).sum<=4194304)(hlen:ps.length<=4194304)(at_:Nat)(hA:splG (fun j=>Pr.size (ps.getD j ⟨⟨#[]⟩,⟨#[]⟩⟩)) (ps.map Pr.size).sum (ps.length - 1) ps.length 1 (Pr.size (ps.getD 0 ⟨⟨#[]⟩,⟨#[]⟩⟩))=at_)(hat:at_<ps.length)(key:ByteArray)(hkey:ps[at_].k=key) :
  Calls prog 174 #[v] w fun e w'=>∃a m c a' m' c',e=.returned (.tuple #[.agg #[.bool true,.slice a m c,.slice none 0 0,.slice none 0 0],.agg #[.bool true,.slice a' m' c',.slice none 0 0,.slice none 0 0],.string key])/\OwP w' w.heap.size (.slice a m c) (ps.take at_)/\OwP w' w.heap.size (.slice a' m' c') (ps.drop at_)/\Kp none' w w':=by
 have hP':=hP;obtain⟨a,c,rfl,hlc,hcm,ha⟩:=hP';unfold maxLen at hcm;obtain⟨b,o,rfl,hbB,hck,_⟩:=ha at_ hat;rw[hkey]at hck;clear ha;have hK0:Kp none' w ((w.alloc (.cells #[.bool false,.slice none 0 0,.slice none 0 0,.slice none 0 0] 35)).alloc (.cells #[.bool false,.slice none 0 0,.slice none 0 0,.slice none 0 0] 35)):=(Kp.alloc _ _ _).thenN (Kp.alloc _ _ _)
 have n2:=(Nb.new w false (.slice none 0 0) (.slice none 0 0) (.slice none 0 0)).kept (Kp.alloc none' _ (.cells #[.bool false,.slice none 0 0,.slice none 0 0,.slice none 0 0] 35)) (fun h=>h);have n3:=Nb.new (w.alloc (.cells #[.bool false,.slice none 0 0,.slice none 0 0,.slice none 0 0] 35)) false (.slice none 0 0) (.slice none 0 0) (.slice none 0 0);rw[show (w.alloc (.cells #[.bool false,.slice none 0 0,.slice none 0 0,.slice none 0 0] 35)).heap.size=w.heap.size+1 by simp]at n3
 have HH:Hid (∀(W:World) (M:Int),Kp none' w W->M=((ps.length - 1:Nat):Int)->Calls prog 198 #[.slice (some ⟨b,o,none⟩) ps.length c,.int .i64 M,.func (.func 51) #[] #[]] W fun e w'=>e=.returned (.int .i64 (at_:Int))/\Kp none' W w'):=fun W M hk hM=>halfP _ ps B W (hP.keptN hk) (by omega) hs hlen M hM at_ hA;have hai:(at_:Int)<=(ps.length:Int):=by omega
 have hal:(at_:Int)<(ps.length:Int):=by omega
 have han:at_<=ps.length:=by omega
 have hac:at_<=c:=by omega
 have hac':(at_:Int)<=(c:Int):=by omega
 have hne:¬at_=c:=by omega
 have hnc:¬c=at_:=by omega
 have HML:Hid (1<=ps.length/\ps.length<=4194304):=by show _/\_;omega
 clear hA hs h2;go_enter func174,ntmps174;go_upto_region 1 with fail;generalize (w.alloc (.cells #[.bool false,.slice none 0 0,.slice none 0 0,.slice none 0 0] 35)).alloc (.cells #[.bool false,.slice none 0 0,.slice none 0 0,.slice none 0 0] 35)=w0 at *;go_upto_region 2 with (first
  | (go_at_call 198;refine(HH.out _ _ hK0 (by have:=HML.out;first|(unfold wrap64;omega)|(rw[IntKind.wrap_i64];omega)|omega)).mono ?_;rintro e w1 ⟨rfl,hK1⟩)
  | fail)
 replace n2:=n2.kept hK1 (fun h=>h);replace n3:=n3.kept hK1 (fun h=>h);have HLT:Hid (w.heap.size+1<w1.heap.size):=n3.lt;have rk:∀W:World,Kp (fun k=>w.heap.size<=k) w1 W->W.cell? ⟨b,o+at_*2,none⟩=some (.string key):=fun W hk=>hk.cell ((hK0.thenN hK1).cell hck (fun h=>h)) (fun h=>by omega);have HPW:Hid (∀W:World,Kp (fun k=>w.heap.size<=k) w1 W->Prs B W (.slice (some ⟨b,o,none⟩) ps.length c) ps):=fun W hk=>(hP.keptN (hK0.thenN hK1)).kept hk (fun k hk' h=>by omega)
 have HLA:Hid (∀(W:World) (g:Nat),Kp (fun k=>w.heap.size<=k) w1 W->Sl (fun x:Value=>x) (g+1) W (.slice (some ⟨g,0,none⟩) 1 1) [.slice (some ⟨b,o,none⟩) at_ c]->Calls prog 64 #[.slice (some ⟨g,0,none⟩) 1 1] W fun e w'=>∃a m c,e=.returned (.agg #[.bool true,.slice a m c,.slice none 0 0,.slice none 0 0])/\OwP w' W.heap.size (.slice a m c) (ps.take at_)/\Kp none' W w'):=by
  intro W g hk hV;refine(CN _ [_] [ps.take at_] (g+1) B W hV rfl ?_ (by simp;omega)).mono ?_
  ·intro i h h';match i,h with
   | 0,_=>exact(HPW.out W hk).take at_ han
  ·rintro e w' ⟨a',c',rfl,hO,hK⟩;simp only[List.flatten_cons,List.flatten_nil,List.append_nil]at hO |-;exact⟨_,_,_,rfl,hO,hK⟩
 have HLB:Hid (∀(W:World) (g:Nat),Kp (fun k=>w.heap.size<=k) w1 W->Sl (fun x:Value=>x) (g+1) W (.slice (some ⟨g,0,none⟩) 1 1) [.slice (some ⟨b,o+at_*2,none⟩) (ps.length - at_) (c - at_)]->Calls prog 64 #[.slice (some ⟨g,0,none⟩) 1 1] W fun e w'=>∃a m c,e=.returned (.agg #[.bool true,.slice a m c,.slice none 0 0,.slice none 0 0])/\OwP w' W.heap.size (.slice a m c) (ps.drop at_)/\Kp none' W w'):=by
  intro W g hk hV;refine(CN _ [_] [ps.drop at_] (g+1) B W hV rfl ?_ (by simp;omega)).mono ?_
  ·intro i h h';match i,h with
   | 0,_ =>
    have:=(HPW.out W hk).dropM at_ han;simpa[Ar]using this
  ·rintro e w' ⟨a',c',rfl,hO,hK⟩;simp only[List.flatten_cons,List.flatten_nil,List.append_nil]at hO |-;exact⟨_,_,_,rfl,hO,hK⟩
 clear hP hck HH hcm hlc hlen hkey;replace n2:=n2.kept (Kp.drew none' w1) (fun h=>h);replace n3:=n3.kept (Kp.drew none' w1) (fun h=>h);refine wp_region_held_drew (S:=fun W=>Kp (fun k=>w.heap.size<=k) w1 W) (by kernel_rfl) (Kp.drew _ _) (fun hHeld=>?_);refine Aa (i:=0) (d:=11) (v:=?_) rfl rfl (by kernel_rfl) (by kernel_rfl) (by kernel_rfl) (fun _ _ _ h=>h) (Or.inl ⟨by rfl,?_⟩) (by assumption) ?_;rotate_left
 ·intro W hSW;try dsimp only at hSW
  have gk:=rk W hSW;go_simp;try with_reducible rfl
 try simp only[Act.put,Qa,Qb,Qc]
 refine Aa (i:=1) (d:=12) (v:=?_) rfl rfl (by kernel_rfl) (by kernel_rfl) (by kernel_rfl) (fun _ _ _ h=>h) (Or.inl ⟨by rfl,?_⟩) (by assumption) ?_;rotate_left
 ·intro W hSW;try dsimp only at hSW
  have gk:=rk W hSW;go_simp;try with_reducible rfl
 try simp only[Act.put,Qa,Qb,Qc]
 refine Aa (i:=2) (d:=13) (v:=?_) rfl rfl (by kernel_rfl) (by kernel_rfl) (by kernel_rfl) (fun _ _ _ h=>h) (Or.inl ⟨by rfl,?_⟩) (by assumption) ?_;rotate_left
 ·intro W hSW;try dsimp only at hSW
  have gk:=rk W hSW;go_simp;try with_reducible rfl
 try simp only[Act.put,Qa,Qb,Qc]
 refine Aa (i:=5) (d:=16) (v:=?_) rfl rfl (by kernel_rfl) (by kernel_rfl) (by kernel_rfl) (fun _ _ _ h=>h) (Or.inl ⟨by rfl,?_⟩) (by assumption) ?_;rotate_left
 ·intro W hSW;try dsimp only at hSW
  have gk:=rk W hSW;go_simp;try with_reducible rfl
 try simp only[Act.put,Qa,Qb,Qc]
 refine Aa (i:=6) (d:=17) (v:=?_) rfl rfl (by kernel_rfl) (by kernel_rfl) (by kernel_rfl) (fun _ _ _ h=>h) (Or.inl ⟨by rfl,?_⟩) (by assumption) ?_;rotate_left
 ·intro W hSW;try dsimp only at hSW
  have gk:=rk W hSW;go_simp;try with_reducible rfl
 try simp only[Act.put,Qa,Qb,Qc]
 refine Aa (i:=7) (d:=18) (v:=?_) rfl rfl (by kernel_rfl) (by kernel_rfl) (by kernel_rfl) (fun _ _ _ h=>h) (Or.inl ⟨by rfl,?_⟩) (by assumption) ?_;rotate_left
 ·intro W hSW;try dsimp only at hSW
  have gk:=rk W hSW;go_simp;try with_reducible rfl
 try simp only[Act.put,Qa,Qb,Qc]
 refine Aa (i:=10) (d:=21) (v:=?_) rfl rfl (by kernel_rfl) (by kernel_rfl) (by kernel_rfl) (fun _ _ _ h=>h) (Or.inl ⟨by rfl,?_⟩) (by assumption) ?_;rotate_left
 ·intro W hSW;try dsimp only at hSW
  have gk:=rk W hSW;go_simp;try with_reducible rfl
 try simp only[Act.put,Qa,Qb,Qc]
 refine Aa (i:=11) (d:=22) (v:=?_) rfl rfl (by kernel_rfl) (by kernel_rfl) (by kernel_rfl) (fun _ _ _ h=>h) (Or.inl ⟨by rfl,?_⟩) (by assumption) ?_;rotate_left
 ·intro W hSW;try dsimp only at hSW
  have gk:=rk W hSW;go_simp;try with_reducible rfl
 try simp only[Act.put,Qa,Qb,Qc]
 refine Aa (i:=12) (d:=23) (v:=?_) rfl rfl (by kernel_rfl) (by kernel_rfl) (by kernel_rfl) (fun _ _ _ h=>h) (Or.inl ⟨by rfl,?_⟩) (by assumption) ?_;rotate_left
 ·intro W hSW;try dsimp only at hSW
  have gk:=rk W hSW;go_simp;try with_reducible rfl
 try simp only[Act.put,Qa,Qb,Qc]
 refine Aa (i:=13) (d:=24) (v:=?_) rfl rfl (by kernel_rfl) (by kernel_rfl) (by kernel_rfl) (fun _ _ _ h=>h) (Or.inl ⟨by rfl,?_⟩) (by assumption) ?_;rotate_left
 ·intro W hSW;try dsimp only at hSW
  have gk:=rk W hSW;go_simp;try with_reducible rfl
 try simp only[Act.put,Qa,Qb,Qc]
 refine Aa (i:=14) (d:=25) (v:=?_) rfl rfl (by kernel_rfl) (by kernel_rfl) (by kernel_rfl) (fun _ _ _ h=>h) (Or.inl ⟨by rfl,?_⟩) (by assumption) ?_;rotate_left
 ·intro W hSW;try dsimp only at hSW
  have gk:=rk W hSW;go_simp;try with_reducible rfl
 try simp only[Act.put,Qa,Qb,Qc]
 refine wpAnyH_ready (rs:=[3,8]) (by kernel_rfl) (by simp) ?_;refine AllReadyH.cons rfl (fun K hK=>?_) ?_
 ·refine Bx (d:=14) (by rfl) (by rfl) (.tmp 13) (by rfl) (by rfl) ?_;intro wx3 gA hVA hk3 hg3;try rw[if_neg hnc]at hVA
  replace n2:=n2.kept hk3 (fun h=>h);replace n3:=n3.kept hk3 (fun h=>h);refine hK.out _ _ (hHeld.thenN hk3) (fun hHeld=>?_);clear hK K;try simp only[Act.put,Qa,Qb,Qc]
  refine wpAnyH_ready (rs:=[4,8]) (by kernel_rfl) (by simp) ?_;refine AllReadyH.cons rfl (fun K hK=>?_) ?_
  ·go_simp;go_wp2_with (go_at_call 64;refine(HLA.out _ gA hHeld hVA).mono ?_;rintro e wx4 ⟨bA,mA,dA,rfl,oA,hk4⟩);replace oA:=oA.mono hHeld.size;replace hVA:=hVA.keptN hk4;replace n2:=n2.kept hk4 (fun h=>h);replace n3:=n3.kept hk4 (fun h=>h);refine hK.out _ _ (hHeld.thenN hk4) (fun hHeld=>?_);clear hK K;try simp only[Act.put,Qa,Qb,Qc]
   refine wpAnyH_ready (rs:=[8]) (by kernel_rfl) (by simp) ?_;refine AllReadyH.cons rfl (fun K hK=>?_) ?_
   ·refine Bx (d:=19) (by rfl) (by rfl) (.tmp 18) (by rfl) (by rfl) ?_;intro wx8 gB hVB hk8 hg8;try rw[if_neg hnc]at hVB
    replace oA:=oA.keptN hk8;replace n2:=n2.kept hk8 (fun h=>h);replace n3:=n3.kept hk8 (fun h=>h);refine hK.out _ _ (hHeld.thenN hk8) (fun hHeld=>?_);clear hK K;try simp only[Act.put,Qa,Qb,Qc]
    refine wpAnyH_ready (rs:=[9]) (by kernel_rfl) (by simp) ?_;refine AllReadyH.cons rfl (fun K hK=>?_) ?_
    ·go_simp;go_wp2_with (go_at_call 64;refine(HLB.out _ gB hHeld hVB).mono ?_;rintro e wx9 ⟨bB,mB,dB,rfl,oB,hk9⟩);replace oB:=oB.mono hHeld.size;replace hVB:=hVB.keptN hk9;replace oA:=oA.keptN hk9;replace n2:=n2.kept hk9 (fun h=>h);replace n3:=n3.kept hk9 (fun h=>h);refine hK.out _ _ (hHeld.thenN hk9) (fun hHeld=>?_);clear hK K;try simp only[Act.put,Qa,Qb,Qc]
     refine wpAnyH_ready (rs:=[15]) (by kernel_rfl) (by simp) ?_;refine AllReadyH.cons rfl (fun K hK=>?_) ?_
     ·refine Ah (by rfl) (by rfl) (.tmp 2) (.tmp 15) (by rfl) w.heap.size (by rfl) (by rfl) n2 ?_;clear n2;intro wx15 n2 hk15;replace n3:=Aw n3 (by omega) hk15;replace oA:=oA.kept hk15 (fun z hz e=>by have:=(oA.lt z hz).1;have:=HLT.out;unfold only at e;omega);replace oB:=oB.kept hk15 (fun z hz e=>by have:=(oB.lt z hz).1;have:=HLT.out;unfold only at e;omega);refine hK.out _ _ (hHeld.trans hk15 (fun _ _ h=>h) (fun k _ e=>by unfold only at e;show _<=_;omega)) (fun hHeld=>?_);clear hK K
      try simp only[Act.put,Qa,Qb,Qc]
      refine wpAnyH_ready (rs:=[16]) (by kernel_rfl) (by simp) ?_;refine AllReadyH.cons rfl (fun K hK=>?_) ?_
      ·refine Ah (by rfl) (by rfl) (.tmp 3) (.tmp 20) (by rfl) (w.heap.size+1) (by rfl) (by rfl) n3 ?_;clear n3;intro wx16 n3 hk16;replace n2:=Aw n2 (by omega) hk16;replace oA:=oA.kept hk16 (fun z hz e=>by have:=(oA.lt z hz).1;have:=HLT.out;unfold only at e;omega);replace oB:=oB.kept hk16 (fun z hz e=>by have:=(oB.lt z hz).1;have:=HLT.out;unfold only at e;omega);refine hK.out _ _ (hHeld.trans hk16 (fun _ _ h=>h) (fun k _ e=>by unfold only at e;show _<=_;omega)) (fun hHeld=>?_)
       clear hK K;try simp only[Act.put,Qa,Qb,Qc]
       refine Aa (i:=17) (d:=4) (v:=?_) rfl rfl (by kernel_rfl) (by kernel_rfl) (by kernel_rfl) (fun _ _ _ h=>h) (Or.inl ⟨by rfl,?_⟩) (by assumption) ?_;rotate_left
       ·intro W hSW;try dsimp only at hSW
        go_simp;try with_reducible rfl
       try simp only[Act.put,Qa,Qb,Qc]
       refine wpAnyH_done (by kernel_rfl) ?_ _;try go_wp2
       refine bodyPost_ret (AL rfl _ w.heap.size (w.heap.size+1) _ (.string key) rfl rfl rfl n2 n3) rfl ?_;exact⟨_,_,_,_,_,_,rfl,oA.mono (by have:=HLT.out;omega),oB.mono (by have:=HLT.out;omega),(hK0.thenN hK1).trans hHeld (fun _ _ h=>h) (fun k hk h=>absurd hk (by have h':w.heap.size<=k:=h;omega))⟩
      exact AllReadyH.nil
     exact AllReadyH.nil
    exact AllReadyH.nil
   exact AllReadyH.nil
  refine AllReadyH.cons rfl (fun K hK=>?_) ?_
  ·refine Bx (d:=19) (by rfl) (by rfl) (.tmp 18) (by rfl) (by rfl) ?_;intro wx8 gB hVB hk8 hg8;try rw[if_neg hnc]at hVB
   replace hVA:=hVA.keptN hk8;replace n2:=n2.kept hk8 (fun h=>h);replace n3:=n3.kept hk8 (fun h=>h);refine hK.out _ _ (hHeld.thenN hk8) (fun hHeld=>?_);clear hK K;try simp only[Act.put,Qa,Qb,Qc]
   refine wpAnyH_ready (rs:=[4]) (by kernel_rfl) (by simp) ?_;refine AllReadyH.cons rfl (fun K hK=>?_) ?_
   ·go_simp;go_wp2_with (go_at_call 64;refine(HLA.out _ gA hHeld hVA).mono ?_;rintro e wx4 ⟨bA,mA,dA,rfl,oA,hk4⟩);replace oA:=oA.mono hHeld.size;replace hVA:=hVA.keptN hk4;replace hVB:=hVB.keptN hk4;replace n2:=n2.kept hk4 (fun h=>h);replace n3:=n3.kept hk4 (fun h=>h);refine hK.out _ _ (hHeld.thenN hk4) (fun hHeld=>?_);clear hK K;try simp only[Act.put,Qa,Qb,Qc]
    refine wpAnyH_ready (rs:=[9]) (by kernel_rfl) (by simp) ?_;refine AllReadyH.cons rfl (fun K hK=>?_) ?_
    ·go_simp;go_wp2_with (go_at_call 64;refine(HLB.out _ gB hHeld hVB).mono ?_;rintro e wx9 ⟨bB,mB,dB,rfl,oB,hk9⟩);replace oB:=oB.mono hHeld.size;replace hVB:=hVB.keptN hk9;replace oA:=oA.keptN hk9;replace n2:=n2.kept hk9 (fun h=>h);replace n3:=n3.kept hk9 (fun h=>h);refine hK.out _ _ (hHeld.thenN hk9) (fun hHeld=>?_);clear hK K;try simp only[Act.put,Qa,Qb,Qc]
     refine wpAnyH_ready (rs:=[15]) (by kernel_rfl) (by simp) ?_;refine AllReadyH.cons rfl (fun K hK=>?_) ?_
     ·refine Ah (by rfl) (by rfl) (.tmp 2) (.tmp 15) (by rfl) w.heap.size (by rfl) (by rfl) n2 ?_;clear n2;intro wx15 n2 hk15;replace n3:=Aw n3 (by omega) hk15;replace oA:=oA.kept hk15 (fun z hz e=>by have:=(oA.lt z hz).1;have:=HLT.out;unfold only at e;omega);replace oB:=oB.kept hk15 (fun z hz e=>by have:=(oB.lt z hz).1;have:=HLT.out;unfold only at e;omega);refine hK.out _ _ (hHeld.trans hk15 (fun _ _ h=>h) (fun k _ e=>by unfold only at e;show _<=_;omega)) (fun hHeld=>?_);clear hK K
      try simp only[Act.put,Qa,Qb,Qc]
      refine wpAnyH_ready (rs:=[16]) (by kernel_rfl) (by simp) ?_;refine AllReadyH.cons rfl (fun K hK=>?_) ?_
      ·refine Ah (by rfl) (by rfl) (.tmp 3) (.tmp 20) (by rfl) (w.heap.size+1) (by rfl) (by rfl) n3 ?_;clear n3;intro wx16 n3 hk16;replace n2:=Aw n2 (by omega) hk16;replace oA:=oA.kept hk16 (fun z hz e=>by have:=(oA.lt z hz).1;have:=HLT.out;unfold only at e;omega);replace oB:=oB.kept hk16 (fun z hz e=>by have:=(oB.lt z hz).1;have:=HLT.out;unfold only at e;omega);refine hK.out _ _ (hHeld.trans hk16 (fun _ _ h=>h) (fun k _ e=>by unfold only at e;show _<=_;omega)) (fun hHeld=>?_)
       clear hK K;try simp only[Act.put,Qa,Qb,Qc]
       refine Aa (i:=17) (d:=4) (v:=?_) rfl rfl (by kernel_rfl) (by kernel_rfl) (by kernel_rfl) (fun _ _ _ h=>h) (Or.inl ⟨by rfl,?_⟩) (by assumption) ?_;rotate_left
       ·intro W hSW;try dsimp only at hSW
        go_simp;try with_reducible rfl
       try simp only[Act.put,Qa,Qb,Qc]
       refine wpAnyH_done (by kernel_rfl) ?_ _;try go_wp2
       refine bodyPost_ret (AL rfl _ w.heap.size (w.heap.size+1) _ (.string key) rfl rfl rfl n2 n3) rfl ?_;exact⟨_,_,_,_,_,_,rfl,oA.mono (by have:=HLT.out;omega),oB.mono (by have:=HLT.out;omega),(hK0.thenN hK1).trans hHeld (fun _ _ h=>h) (fun k hk h=>absurd hk (by have h':w.heap.size<=k:=h;omega))⟩
      exact AllReadyH.nil
     exact AllReadyH.nil
    exact AllReadyH.nil
   exact AllReadyH.nil
  exact AllReadyH.nil
 refine AllReadyH.cons rfl (fun K hK=>?_) ?_
 ·refine Bx (d:=19) (by rfl) (by rfl) (.tmp 18) (by rfl) (by rfl) ?_;intro wx8 gB hVB hk8 hg8;try rw[if_neg hnc]at hVB
  replace n2:=n2.kept hk8 (fun h=>h);replace n3:=n3.kept hk8 (fun h=>h);refine hK.out _ _ (hHeld.thenN hk8) (fun hHeld=>?_);clear hK K;try simp only[Act.put,Qa,Qb,Qc]
  refine wpAnyH_ready (rs:=[3]) (by kernel_rfl) (by simp) ?_;refine AllReadyH.cons rfl (fun K hK=>?_) ?_
  ·refine Bx (d:=14) (by rfl) (by rfl) (.tmp 13) (by rfl) (by rfl) ?_;intro wx3 gA hVA hk3 hg3;try rw[if_neg hnc]at hVA
   replace hVB:=hVB.keptN hk3;replace n2:=n2.kept hk3 (fun h=>h);replace n3:=n3.kept hk3 (fun h=>h);refine hK.out _ _ (hHeld.thenN hk3) (fun hHeld=>?_);clear hK K;try simp only[Act.put,Qa,Qb,Qc]
   refine wpAnyH_ready (rs:=[4]) (by kernel_rfl) (by simp) ?_;refine AllReadyH.cons rfl (fun K hK=>?_) ?_
   ·go_simp;go_wp2_with (go_at_call 64;refine(HLA.out _ gA hHeld hVA).mono ?_;rintro e wx4 ⟨bA,mA,dA,rfl,oA,hk4⟩);replace oA:=oA.mono hHeld.size;replace hVA:=hVA.keptN hk4;replace hVB:=hVB.keptN hk4;replace n2:=n2.kept hk4 (fun h=>h);replace n3:=n3.kept hk4 (fun h=>h);refine hK.out _ _ (hHeld.thenN hk4) (fun hHeld=>?_);clear hK K;try simp only[Act.put,Qa,Qb,Qc]
    refine wpAnyH_ready (rs:=[9]) (by kernel_rfl) (by simp) ?_;refine AllReadyH.cons rfl (fun K hK=>?_) ?_
    ·go_simp;go_wp2_with (go_at_call 64;refine(HLB.out _ gB hHeld hVB).mono ?_;rintro e wx9 ⟨bB,mB,dB,rfl,oB,hk9⟩);replace oB:=oB.mono hHeld.size;replace hVB:=hVB.keptN hk9;replace oA:=oA.keptN hk9;replace n2:=n2.kept hk9 (fun h=>h);replace n3:=n3.kept hk9 (fun h=>h);refine hK.out _ _ (hHeld.thenN hk9) (fun hHeld=>?_);clear hK K;try simp only[Act.put,Qa,Qb,Qc]
     refine wpAnyH_ready (rs:=[15]) (by kernel_rfl) (by simp) ?_;refine AllReadyH.cons rfl (fun K hK=>?_) ?_
     ·refine Ah (by rfl) (by rfl) (.tmp 2) (.tmp 15) (by rfl) w.heap.size (by rfl) (by rfl) n2 ?_;clear n2;intro wx15 n2 hk15;replace n3:=Aw n3 (by omega) hk15;replace oA:=oA.kept hk15 (fun z hz e=>by have:=(oA.lt z hz).1;have:=HLT.out;unfold only at e;omega);replace oB:=oB.kept hk15 (fun z hz e=>by have:=(oB.lt z hz).1;have:=HLT.out;unfold only at e;omega);refine hK.out _ _ (hHeld.trans hk15 (fun _ _ h=>h) (fun k _ e=>by unfold only at e;show _<=_;omega)) (fun hHeld=>?_);clear hK K
      try simp only[Act.put,Qa,Qb,Qc]
      refine wpAnyH_ready (rs:=[16]) (by kernel_rfl) (by simp) ?_;refine AllReadyH.cons rfl (fun K hK=>?_) ?_
      ·refine Ah (by rfl) (by rfl) (.tmp 3) (.tmp 20) (by rfl) (w.heap.size+1) (by rfl) (by rfl) n3 ?_;clear n3;intro wx16 n3 hk16;replace n2:=Aw n2 (by omega) hk16;replace oA:=oA.kept hk16 (fun z hz e=>by have:=(oA.lt z hz).1;have:=HLT.out;unfold only at e;omega);replace oB:=oB.kept hk16 (fun z hz e=>by have:=(oB.lt z hz).1;have:=HLT.out;unfold only at e;omega);refine hK.out _ _ (hHeld.trans hk16 (fun _ _ h=>h) (fun k _ e=>by unfold only at e;show _<=_;omega)) (fun hHeld=>?_)
       clear hK K;try simp only[Act.put,Qa,Qb,Qc]
       refine Aa (i:=17) (d:=4) (v:=?_) rfl rfl (by kernel_rfl) (by kernel_rfl) (by kernel_rfl) (fun _ _ _ h=>h) (Or.inl ⟨by rfl,?_⟩) (by assumption) ?_;rotate_left
       ·intro W hSW;try dsimp only at hSW
        go_simp;try with_reducible rfl
       try simp only[Act.put,Qa,Qb,Qc]
       refine wpAnyH_done (by kernel_rfl) ?_ _;try go_wp2
       refine bodyPost_ret (AL rfl _ w.heap.size (w.heap.size+1) _ (.string key) rfl rfl rfl n2 n3) rfl ?_;exact⟨_,_,_,_,_,_,rfl,oA.mono (by have:=HLT.out;omega),oB.mono (by have:=HLT.out;omega),(hK0.thenN hK1).trans hHeld (fun _ _ h=>h) (fun k hk h=>absurd hk (by have h':w.heap.size<=k:=h;omega))⟩
      exact AllReadyH.nil
     exact AllReadyH.nil
    exact AllReadyH.nil
   exact AllReadyH.nil
  exact AllReadyH.nil
 exact AllReadyH.nil
theorem Sl.dropI{α:Type}{f:α->Value}{B:Nat}{w:World}{b o c:Nat}{l:List α}(h:Sl f B w (.slice (some ⟨b,o,none⟩) l.length c) l)(m:Nat)(hm:m<=l.length):Sl f B w (.slice (some ⟨b,o+m,none⟩) (l.length - m) (c - m)) (l.drop m) :=
 h.drop m hm (fun b' off _ e=>by cases e;rfl)
theorem LV(at_ i1 n m c c2:Nat)(h1:at_+1=i1)(h2:at_+1<n)(h3:m=n+1)(h4:n<=c)(h5:m<=c2)(h6:n<=4194303):IntKind.i64.wrap ((at_:Int)+1)=(i1:Int)/\wrap64 ((at_:Int)+1)=(i1:Int)/\(at_:Int)<(n:Int)/\(at_:Int)<=(n:Int)/\at_<=n/\at_<=c/\(at_:Int)<=(c:Int)/\(i1:Int)<=(n:Int)/\i1<=n/\i1<=c/\(i1:Int)<=(c:Int)/\¬c=i1/\(i1:Int)<=(m:Int)/\i1<=m/\i1<=c2/\(i1:Int)<=(c2:Int)/\¬c2=i1:=by
 refine⟨by rw[IntKind.wrap_i64];omega,by unfold wrap64;omega,?_⟩;omega
theorem Nm(n:Nat)(h:3<=n/\n<=4194304)(M:Int)(hM:M=wrap64 ((n:Int) - 2)\/M=IntKind.i64.wrap ((n:Int) - 2)\/M=(n:Int) - 2):M=((n - 2:Nat):Int):=by
 rcases hM with h1|h1|h1
 ·rw[h1];unfold wrap64;omega
 ·rw[h1,IntKind.wrap_i64];omega
 ·rw[h1];omega
set_option maxRecDepth 100000 in
theorem FN(v dv:Value)(ks:List ByteArray)(kd:List Int)(B:Nat)(w:World)(hS:Sl Value.string B w v ks)(hD:Sl (Value.int .i64) B w dv kd)(hB:B<=w.heap.size)(h3:3<=ks.length)(hkl:kd.length=ks.length+1)(hs:(ks.map kSize).sum<=4194304)(hlen:ks.length<=4194303)(at_:Nat)(hA:splG (fun j=>kSize (ks.getD j ⟨#[]⟩)) (ks.map kSize).sum (ks.length - 2) ks.length 1 (kSize (ks.getD 0 ⟨#[]⟩))=at_)(hat:at_+1<ks.length)(key:ByteArray)(hkey:ks[at_]'(by omega)=key) :
  Calls prog 175 #[v,dv] w fun e w'=>∃a m c a2 m2 c2 a' m' c' a2' m2' c2',e=.returned (.tuple #[.agg #[.bool false,.slice none 0 0,.slice a m c,.slice a2 m2 c2],.agg #[.bool false,.slice none 0 0,.slice a' m' c',.slice a2' m2' c2'],.string key]) /\
   Ow Value.string 9 w' w.heap.size (.slice a m c) (ks.take at_)/\Ow (Value.int .i64) 3 w' w.heap.size (.slice a2 m2 c2) (kd.take (at_+1))/\Ow Value.string 9 w' w.heap.size (.slice a' m' c') (ks.drop (at_+1))/\Ow (Value.int .i64) 3 w' w.heap.size (.slice a2' m2' c2') (kd.drop (at_+1))/\Kp none' w w':=by
 have hS':=hS;have hD':=hD;obtain⟨a,c,rfl,hlc,hcm,ha⟩:=hS';obtain⟨a2,c2,rfl,hlc2,hcm2,ha2⟩:=hD';unfold maxLen at hcm hcm2;obtain⟨b,o,rfl,hbB,hck⟩:=ha at_ (by omega);obtain⟨b2,o2,rfl,hbB2,hx2⟩:=ha2 0 (by omega);clear hx2;rw[hkey]at hck;clear ha ha2;have hK0:Kp none' w ((w.alloc (.cells #[.bool false,.slice none 0 0,.slice none 0 0,.slice none 0 0] 35)).alloc (.cells #[.bool false,.slice none 0 0,.slice none 0 0,.slice none 0 0] 35)):=(Kp.alloc _ _ _).thenN (Kp.alloc _ _ _)
 have n4:=(Nb.new w false (.slice none 0 0) (.slice none 0 0) (.slice none 0 0)).kept (Kp.alloc none' _ (.cells #[.bool false,.slice none 0 0,.slice none 0 0,.slice none 0 0] 35)) (fun h=>h);have n5:=Nb.new (w.alloc (.cells #[.bool false,.slice none 0 0,.slice none 0 0,.slice none 0 0] 35)) false (.slice none 0 0) (.slice none 0 0) (.slice none 0 0);rw[show (w.alloc (.cells #[.bool false,.slice none 0 0,.slice none 0 0,.slice none 0 0] 35)).heap.size=w.heap.size+1 by simp]at n5
 have HH:Hid (∀(W:World) (M:Int),Kp none' w W->M=((ks.length - 2:Nat):Int)->Calls prog 199 #[.slice (some ⟨b,o,none⟩) ks.length c,.int .i64 M,.func (.func 53) #[] #[]] W fun e w'=>e=.returned (.int .i64 (at_:Int))/\Kp none' W w'):=fun W M hk hM=>halfK _ ks B W (hS.keptN hk) (by omega) hs (by omega) M hM at_ hA;obtain⟨i1,HI1⟩:∃i1,Hid (at_+1=i1):=⟨_,rfl⟩;obtain⟨hi1,hi1w,q1,q2,q3,q4,q5,q6,q7,q8,q9,hnc,r6,r7,r8,r9,hnd⟩:=LV at_ i1 ks.length kd.length c c2 HI1.out hat hkl hlc hlc2 hlen
 clear hi1w;have HI1w:=hide hi1;clear hi1;have hnc':¬i1=c:=fun e=>hnc e.symm;have hnd':¬i1=c2:=fun e=>hnd e.symm;have HML:Hid (3<=ks.length/\ks.length<=4194304):=by show _/\_;omega
 have HKL:=hide hkl;have HB1:Hid (ks.length<=100000000/\kd.length<=100000000):=by show _/\_;omega
 rw[HI1.out];clear hkey;clear hA hs h3 hkl hat hlen;go_enter func175,ntmps175;go_upto_region 1 with fail;generalize (w.alloc (.cells #[.bool false,.slice none 0 0,.slice none 0 0,.slice none 0 0] 35)).alloc (.cells #[.bool false,.slice none 0 0,.slice none 0 0,.slice none 0 0] 35)=w0 at *;go_upto_region 2 with (first
  | (go_at_call 199;refine(HH.out _ _ hK0 (Nm _ HML.out _ (by first|exact .inl rfl|exact .inr (.inl rfl)|exact .inr (.inr rfl)))).mono ?_;rintro e w1 ⟨rfl,hK1⟩)
  | fail)
 replace n4:=n4.kept hK1 (fun h=>h);replace n5:=n5.kept hK1 (fun h=>h);have HLT:Hid (w.heap.size+1<w1.heap.size):=n5.lt;have rk:∀W:World,Kp (fun k=>w.heap.size<=k) w1 W->W.cell? ⟨b,o+at_,none⟩=some (.string key):=fun W hk=>hk.cell ((hK0.thenN hK1).cell hck (fun h=>h)) (fun h=>by omega);have HSW:Hid (∀W:World,Kp (fun k=>w.heap.size<=k) w1 W->Sl Value.string B W (.slice (some ⟨b,o,none⟩) ks.length c) ks):=fun W hk=>(hS.keptN (hK0.thenN hK1)).kept hk (fun k hk' h=>by omega)
 have HDW:Hid (∀W:World,Kp (fun k=>w.heap.size<=k) w1 W->Sl (Value.int .i64) B W (.slice (some ⟨b2,o2,none⟩) kd.length c2) kd):=fun W hk=>(hD.keptN (hK0.thenN hK1)).kept hk (fun k hk' h=>by omega)
 have HIA:Hid (∀(W:World) (X Y:Value),X=.slice (some ⟨b,o,none⟩) at_ c->Y=.slice (some ⟨b2,o2,none⟩) i1 c2->Kp (fun k=>w.heap.size<=k) w1 W->Calls prog 200 #[X,Y] W fun e w'=>∃a m c a' m' c',e=.returned (.agg #[.bool false,.slice none 0 0,.slice a m c,.slice a' m' c'])/\Ow Value.string 9 w' W.heap.size (.slice a m c) (ks.take at_)/\Ow (Value.int .i64) 3 w' W.heap.size (.slice a' m' c') (kd.take i1)/\Kp none' W w'):=by
  intro W X Y hX hY hk;subst hX hY;exact Gj _ _ _ _ B W ((HSW.out W hk).take at_ q3) ((HDW.out W hk).take i1 r7) (by have:=HB1.out;rw[List.length_take];omega) (by have:=HB1.out;rw[List.length_take];omega)
 have HIB:Hid (∀(W:World) (X Y:Value),X=.slice (some ⟨b,o+i1,none⟩) (ks.length - i1) (c - i1)->Y=.slice (some ⟨b2,o2+i1,none⟩) (kd.length - i1) (c2 - i1)->Kp (fun k=>w.heap.size<=k) w1 W->Calls prog 200 #[X,Y] W fun e w'=>∃a m c a' m' c',e=.returned (.agg #[.bool false,.slice none 0 0,.slice a m c,.slice a' m' c'])/\Ow Value.string 9 w' W.heap.size (.slice a m c) (ks.drop i1)/\Ow (Value.int .i64) 3 w' W.heap.size (.slice a' m' c') (kd.drop i1)/\Kp none' W w'):=by
  intro W X Y hX hY hk;subst hX hY;exact Gj _ _ _ _ B W ((HSW.out W hk).dropI i1 q7) ((HDW.out W hk).dropI i1 r7) (by have:=HB1.out;rw[List.length_drop];omega) (by have:=HB1.out;rw[List.length_drop];omega)
 clear hS hD hck HH hcm hlc hcm2 hlc2;have hi1:=HI1w.out;replace n4:=n4.kept (Kp.drew none' w1) (fun h=>h);replace n5:=n5.kept (Kp.drew none' w1) (fun h=>h);refine wp_region_held_drew (S:=fun W=>Kp (fun k=>w.heap.size<=k) w1 W) (by kernel_rfl) (Kp.drew _ _) (fun hHeld=>?_);refine Aa (i:=0) (d:=13) (v:=?_) rfl rfl (by kernel_rfl) (by kernel_rfl) (by kernel_rfl) (fun _ _ _ h=>h) (Or.inl ⟨by rfl,?_⟩) (by assumption) ?_;rotate_left
 ·intro W hSW;try dsimp only at hSW
  have gk:=rk W hSW;go_simp;try with_reducible rfl
 try simp only[Act.put,Qa,Qb,Qc]
 refine Aa (i:=1) (d:=14) (v:=?_) rfl rfl (by kernel_rfl) (by kernel_rfl) (by kernel_rfl) (fun _ _ _ h=>h) (Or.inl ⟨by rfl,?_⟩) (by assumption) ?_;rotate_left
 ·intro W hSW;try dsimp only at hSW
  have gk:=rk W hSW;go_simp;try with_reducible rfl
 try simp only[Act.put,Qa,Qb,Qc]
 refine Aa (i:=2) (d:=15) (v:=?_) rfl rfl (by kernel_rfl) (by kernel_rfl) (by kernel_rfl) (fun _ _ _ h=>h) (Or.inl ⟨by rfl,?_⟩) (by assumption) ?_;rotate_left
 ·intro W hSW;try dsimp only at hSW
  have gk:=rk W hSW;go_simp;try with_reducible rfl
 try simp only[Act.put,Qa,Qb,Qc]
 refine Aa (i:=3) (d:=16) (v:=?_) rfl rfl (by kernel_rfl) (by kernel_rfl) (by kernel_rfl) (fun _ _ _ h=>h) (Or.inl ⟨by rfl,?_⟩) (by assumption) ?_;rotate_left
 ·intro W hSW;try dsimp only at hSW
  have gk:=rk W hSW;go_simp;try with_reducible rfl
 try simp only[Act.put,Qa,Qb,Qc]
 refine Aa (i:=4) (d:=17) (v:=?_) rfl rfl (by kernel_rfl) (by kernel_rfl) (by kernel_rfl) (fun _ _ _ h=>h) (Or.inl ⟨by rfl,?_⟩) (by assumption) ?_;rotate_left
 ·intro W hSW;try dsimp only at hSW
  have gk:=rk W hSW;go_simp;try with_reducible rfl
 try simp only[Act.put,Qa,Qb,Qc]
 refine Aa (i:=5) (d:=18) (v:=?_) rfl rfl (by kernel_rfl) (by kernel_rfl) (by kernel_rfl) (fun _ _ _ h=>h) (Or.inl ⟨by rfl,?_⟩) (by assumption) ?_;rotate_left
 ·intro W hSW;try dsimp only at hSW
  have gk:=rk W hSW;go_simp;try with_reducible rfl
 try simp only[Act.put,Qa,Qb,Qc]
 refine Aa (i:=6) (d:=19) (v:=?_) rfl rfl (by kernel_rfl) (by kernel_rfl) (by kernel_rfl) (fun _ _ _ h=>h) (Or.inl ⟨by rfl,?_⟩) (by assumption) ?_;rotate_left
 ·intro W hSW;try dsimp only at hSW
  have gk:=rk W hSW;go_simp;try with_reducible rfl
 try simp only[Act.put,Qa,Qb,Qc]
 refine Aa (i:=8) (d:=21) (v:=?_) rfl rfl (by kernel_rfl) (by kernel_rfl) (by kernel_rfl) (fun _ _ _ h=>h) (Or.inl ⟨by rfl,?_⟩) (by assumption) ?_;rotate_left
 ·intro W hSW;try dsimp only at hSW
  have gk:=rk W hSW;go_simp;try with_reducible rfl
 try simp only[Act.put,Qa,Qb,Qc]
 refine Aa (i:=9) (d:=22) (v:=?_) rfl rfl (by kernel_rfl) (by kernel_rfl) (by kernel_rfl) (fun _ _ _ h=>h) (Or.inl ⟨by rfl,?_⟩) (by assumption) ?_;rotate_left
 ·intro W hSW;try dsimp only at hSW
  have gk:=rk W hSW;go_simp;try with_reducible rfl
 try simp only[Act.put,Qa,Qb,Qc]
 refine Aa (i:=10) (d:=23) (v:=?_) rfl rfl (by kernel_rfl) (by kernel_rfl) (by kernel_rfl) (fun _ _ _ h=>h) (Or.inl ⟨by rfl,?_⟩) (by assumption) ?_;rotate_left
 ·intro W hSW;try dsimp only at hSW
  have gk:=rk W hSW;go_simp;try with_reducible rfl
 try simp only[Act.put,Qa,Qb,Qc]
 refine Aa (i:=11) (d:=24) (v:=?_) rfl rfl (by kernel_rfl) (by kernel_rfl) (by kernel_rfl) (fun _ _ _ h=>h) (Or.inl ⟨by rfl,?_⟩) (by assumption) ?_;rotate_left
 ·intro W hSW;try dsimp only at hSW
  have gk:=rk W hSW;go_simp;try with_reducible rfl
 try simp only[Act.put,Qa,Qb,Qc]
 refine Aa (i:=12) (d:=25) (v:=?_) rfl rfl (by kernel_rfl) (by kernel_rfl) (by kernel_rfl) (fun _ _ _ h=>h) (Or.inl ⟨by rfl,?_⟩) (by assumption) ?_;rotate_left
 ·intro W hSW;try dsimp only at hSW
  have gk:=rk W hSW;go_simp;try with_reducible rfl
 try simp only[Act.put,Qa,Qb,Qc]
 refine Aa (i:=13) (d:=26) (v:=?_) rfl rfl (by kernel_rfl) (by kernel_rfl) (by kernel_rfl) (fun _ _ _ h=>h) (Or.inl ⟨by rfl,?_⟩) (by assumption) ?_;rotate_left
 ·intro W hSW;try dsimp only at hSW
  have gk:=rk W hSW;go_simp;try with_reducible rfl
 try simp only[Act.put,Qa,Qb,Qc]
 refine Aa (i:=14) (d:=27) (v:=?_) rfl rfl (by kernel_rfl) (by kernel_rfl) (by kernel_rfl) (fun _ _ _ h=>h) (Or.inl ⟨by rfl,?_⟩) (by assumption) ?_;rotate_left
 ·intro W hSW;try dsimp only at hSW
  have gk:=rk W hSW;go_simp;try with_reducible rfl
 try simp only[Act.put,Qa,Qb,Qc]
 refine Aa (i:=15) (d:=28) (v:=?_) rfl rfl (by kernel_rfl) (by kernel_rfl) (by kernel_rfl) (fun _ _ _ h=>h) (Or.inl ⟨by rfl,?_⟩) (by assumption) ?_;rotate_left
 ·intro W hSW;try dsimp only at hSW
  have gk:=rk W hSW;go_simp;try with_reducible rfl
 try simp only[Act.put,Qa,Qb,Qc]
 refine Aa (i:=17) (d:=30) (v:=?_) rfl rfl (by kernel_rfl) (by kernel_rfl) (by kernel_rfl) (fun _ _ _ h=>h) (Or.inl ⟨by rfl,?_⟩) (by assumption) ?_;rotate_left
 ·intro W hSW;try dsimp only at hSW
  have gk:=rk W hSW;go_simp;try with_reducible rfl
 try simp only[Act.put,Qa,Qb,Qc]
 refine Aa (i:=18) (d:=31) (v:=?_) rfl rfl (by kernel_rfl) (by kernel_rfl) (by kernel_rfl) (fun _ _ _ h=>h) (Or.inl ⟨by rfl,?_⟩) (by assumption) ?_;rotate_left
 ·intro W hSW;try dsimp only at hSW
  have gk:=rk W hSW;go_simp;try with_reducible rfl
 try simp only[Act.put,Qa,Qb,Qc]
 refine Aa (i:=19) (d:=32) (v:=?_) rfl rfl (by kernel_rfl) (by kernel_rfl) (by kernel_rfl) (fun _ _ _ h=>h) (Or.inl ⟨by rfl,?_⟩) (by assumption) ?_;rotate_left
 ·intro W hSW;try dsimp only at hSW
  have gk:=rk W hSW;go_simp;try with_reducible rfl
 try simp only[Act.put,Qa,Qb,Qc]
 refine Aa (i:=20) (d:=33) (v:=?_) rfl rfl (by kernel_rfl) (by kernel_rfl) (by kernel_rfl) (fun _ _ _ h=>h) (Or.inl ⟨by rfl,?_⟩) (by assumption) ?_;rotate_left
 ·intro W hSW;try dsimp only at hSW
  have gk:=rk W hSW;go_simp;try with_reducible rfl
 try simp only[Act.put,Qa,Qb,Qc]
 refine wpAnyH_ready (rs:=[7]) (by kernel_rfl) (by simp) ?_;refine AllReadyH.cons rfl (fun K hK=>?_) ?_
 ·go_simp;go_wp2_with (go_at_call 200;refine(HIA.out _ _ _ (by first|with_reducible rfl|rw[if_neg hnc]|simp[hnc,hnd]) (by first|with_reducible rfl|rw[if_neg hnd]|simp[hnc,hnd]) hHeld).mono ?_;rintro e wx7 ⟨bA,mA,dA,bC,mC,dC,rfl,oA,pA,hk7⟩);replace oA:=oA.mem hHeld.size;replace pA:=pA.mem hHeld.size;replace n4:=n4.kept hk7 (fun h=>h);replace n5:=n5.kept hk7 (fun h=>h);refine hK.out _ _ (hHeld.thenN hk7) (fun hHeld=>?_);clear hK K
  try simp only[Act.put,Qa,Qb,Qc]
  refine wpAnyH_ready (rs:=[16]) (by kernel_rfl) (by simp) ?_;refine AllReadyH.cons rfl (fun K hK=>?_) ?_
  ·go_simp;go_wp2_with (go_at_call 200;refine(HIB.out _ _ _ (by first|with_reducible rfl|rw[if_neg hnc]|simp[hnc,hnd]) (by first|with_reducible rfl|rw[if_neg hnd]|simp[hnc,hnd]) hHeld).mono ?_;rintro e wx16 ⟨bB,mB,dB,bD,mD,dD,rfl,oB,pB,hk16⟩);replace oB:=oB.mem hHeld.size;replace pB:=pB.mem hHeld.size;replace oA:=oA.keptN hk16;replace pA:=pA.keptN hk16;replace n4:=n4.kept hk16 (fun h=>h);replace n5:=n5.kept hk16 (fun h=>h);refine hK.out _ _ (hHeld.thenN hk16) (fun hHeld=>?_);clear hK K
   try simp only[Act.put,Qa,Qb,Qc]
   refine wpAnyH_ready (rs:=[21]) (by kernel_rfl) (by simp) ?_;refine AllReadyH.cons rfl (fun K hK=>?_) ?_
   ·refine Ah (by rfl) (by rfl) (.tmp 4) (.tmp 20) (by rfl) w.heap.size (by rfl) (by rfl) n4 ?_;clear n4;intro wx21 n4 hk21;replace n5:=Aw n5 (by omega) hk21;replace oA:=oA.kept hk21 (fun z hz e=>by have:=(oA.lt z hz).1;have:=HLT.out;unfold only at e;omega);replace pA:=pA.kept hk21 (fun z hz e=>by have:=(pA.lt z hz).1;have:=HLT.out;unfold only at e;omega);replace oB:=oB.kept hk21 (fun z hz e=>by have:=(oB.lt z hz).1;have:=HLT.out;unfold only at e;omega)
    replace pB:=pB.kept hk21 (fun z hz e=>by have:=(pB.lt z hz).1;have:=HLT.out;unfold only at e;omega);refine hK.out _ _ (hHeld.trans hk21 (fun _ _ h=>h) (fun k _ e=>by unfold only at e;show _<=_;omega)) (fun hHeld=>?_);clear hK K;try simp only[Act.put,Qa,Qb,Qc]
    refine wpAnyH_ready (rs:=[22]) (by kernel_rfl) (by simp) ?_;refine AllReadyH.cons rfl (fun K hK=>?_) ?_
    ·refine Ah (by rfl) (by rfl) (.tmp 5) (.tmp 29) (by rfl) (w.heap.size+1) (by rfl) (by rfl) n5 ?_;clear n5;intro wx22 n5 hk22;replace n4:=Aw n4 (by omega) hk22;replace oA:=oA.kept hk22 (fun z hz e=>by have:=(oA.lt z hz).1;have:=HLT.out;unfold only at e;omega);replace pA:=pA.kept hk22 (fun z hz e=>by have:=(pA.lt z hz).1;have:=HLT.out;unfold only at e;omega);replace oB:=oB.kept hk22 (fun z hz e=>by have:=(oB.lt z hz).1;have:=HLT.out;unfold only at e;omega)
     replace pB:=pB.kept hk22 (fun z hz e=>by have:=(pB.lt z hz).1;have:=HLT.out;unfold only at e;omega);refine hK.out _ _ (hHeld.trans hk22 (fun _ _ h=>h) (fun k _ e=>by unfold only at e;show _<=_;omega)) (fun hHeld=>?_);clear hK K;try simp only[Act.put,Qa,Qb,Qc]
     refine Aa (i:=23) (d:=6) (v:=?_) rfl rfl (by kernel_rfl) (by kernel_rfl) (by kernel_rfl) (fun _ _ _ h=>h) (Or.inl ⟨by rfl,?_⟩) (by assumption) ?_;rotate_left
     ·intro W hSW;try dsimp only at hSW
      go_simp;try with_reducible rfl
     try simp only[Act.put,Qa,Qb,Qc]
     refine wpAnyH_done (by kernel_rfl) ?_ _;try go_wp2
     refine bodyPost_ret (AL rfl _ w.heap.size (w.heap.size+1) _ (.string key) rfl rfl rfl n4 n5) rfl ?_;exact⟨_,_,_,_,_,_,_,_,_,_,_,_,rfl,oA.mem (by have:=HLT.out;omega),pA.mem (by have:=HLT.out;omega),oB.mem (by have:=HLT.out;omega),pB.mem (by have:=HLT.out;omega),(hK0.thenN hK1).trans hHeld (fun _ _ h=>h) (fun k hk h=>absurd hk (by have h':w.heap.size<=k:=h;omega))⟩
    exact AllReadyH.nil
   exact AllReadyH.nil
  exact AllReadyH.nil
 exact AllReadyH.nil
set_option maxRecDepth 100000 in
theorem Di(x:Value)(n:Nd)(B:Nat)(w:World)(hN:Nv B w x n)(hB:B<=w.heap.size)(hp:n.ps.length<=100000000)(hk:n.ks.length<=100000000)(hd:n.kd.length<=100000000) :
  Calls prog 176 #[x] w fun e w'=>∃a m c a2 m2 c2 a3 m3 c3,e=.returned (.agg #[.bool n.leaf,.slice a m c,.slice a2 m2 c2,.slice a3 m3 c3])/\OwP w' w.heap.size (.slice a m c) n.ps/\Ow Value.string 9 w' w.heap.size (.slice a2 m2 c2) n.ks/\Ow (Value.int .i64) 3 w' w.heap.size (.slice a3 m3 c3) n.kd/\Kp none' w w':=by
 obtain⟨⟨pv,kv,dv,rfl,hP,hS,hD⟩,hwf⟩:=hN;obtain⟨a1,c1,e1,_⟩:=id hP;obtain⟨a2,c2,e2,_⟩:=id hS;obtain⟨a3,c3,e3,_⟩:=id hD;subst e1 e2 e3;have nb:=(Nb.new w n.leaf (.slice a1 n.ps.length c1) (.slice a2 n.ks.length c2) (.slice a3 n.kd.length c3)).kept (Kp.alloc none' _ (.cells #[.bool false,.slice none 0 0,.slice none 0 0,.slice none 0 0] 35)) (fun h=>h)
 have n2:=Nb.new (w.alloc (.cells #[.bool n.leaf,.slice a1 n.ps.length c1,.slice a2 n.ks.length c2,.slice a3 n.kd.length c3] 35)) false (.slice none 0 0) (.slice none 0 0) (.slice none 0 0);rw[show (w.alloc (.cells #[.bool n.leaf,.slice a1 n.ps.length c1,.slice a2 n.ks.length c2,.slice a3 n.kd.length c3] 35)).heap.size=w.heap.size+1 by simp]at n2
 have hK0:Kp none' w ((w.alloc (.cells #[.bool n.leaf,.slice a1 n.ps.length c1,.slice a2 n.ks.length c2,.slice a3 n.kd.length c3] 35)).alloc (.cells #[.bool false,.slice none 0 0,.slice none 0 0,.slice none 0 0] 35)):=(Kp.alloc _ _ _).thenN (Kp.alloc _ _ _);have HLT:Hid (w.heap.size+1<((w.alloc (.cells #[.bool n.leaf,.slice a1 n.ps.length c1,.slice a2 n.ks.length c2,.slice a3 n.kd.length c3] 35)).alloc (.cells #[.bool false,.slice none 0 0,.slice none 0 0,.slice none 0 0] 35)).heap.size):=n2.lt
 obtain⟨lp,Hlp⟩:∃l,Hid (n.ps.length=l):=⟨_,rfl⟩;obtain⟨lk,Hlk⟩:∃l,Hid (n.ks.length=l):=⟨_,rfl⟩;obtain⟨ld,Hld⟩:∃l,Hid (n.kd.length=l):=⟨_,rfl⟩;obtain⟨lf,Hlf⟩:∃l,Hid (n.leaf=l):=⟨_,rfl⟩;rw[Hlp.out,Hlk.out,Hld.out,Hlf.out]at nb n2 hK0 HLT |-;rw[Hlp.out]at hP;rw[Hlk.out]at hS;rw[Hld.out]at hD;go_enter func176,ntmps176;go_upto_region 1 with fail
 generalize (w.alloc (.cells #[.bool lf,.slice a1 lp c1,.slice a2 lk c2,.slice a3 ld c3] 35)).alloc (.cells #[.bool false,.slice none 0 0,.slice none 0 0,.slice none 0 0] 35)=w1 at *;have f0:∀W:World,Kp (fun k=>w.heap.size<k) w1 W->W.cell? ⟨w.heap.size,0,none⟩=some (.bool lf):=fun W hk=>(nb.kept hk (fun h=>by omega)).c0;have f1:∀W:World,Kp (fun k=>w.heap.size<k) w1 W->W.cell? ⟨w.heap.size,1,none⟩=some (.slice a1 lp c1):=fun W hk=>(nb.kept hk (fun h=>by omega)).c1
 have f2:∀W:World,Kp (fun k=>w.heap.size<k) w1 W->W.cell? ⟨w.heap.size,2,none⟩=some (.slice a2 lk c2):=fun W hk=>(nb.kept hk (fun h=>by omega)).c2;have f3:∀W:World,Kp (fun k=>w.heap.size<k) w1 W->W.cell? ⟨w.heap.size,3,none⟩=some (.slice a3 ld c3):=fun W hk=>(nb.kept hk (fun h=>by omega)).c3;have HA:Hid (∀W:World,Kp (fun k=>w.heap.size<k) w1 W->Calls prog 201 #[.slice a1 lp c1] W fun e w'=>∃a m c,e=.returned (.slice a m c)/\OwP w' W.heap.size (.slice a m c) n.ps/\Kp none' W w'):=by
  intro W hk';refine(OL _ n.ps B W ((hP.keptN hK0).kept hk' (fun k hk h=>by omega)) hp).mono ?_;rintro e w' ⟨v',rfl,hO,hK⟩;obtain⟨a,m,c,rfl⟩:=Ma hO;exact⟨a,m,c,rfl,hO,hK⟩
 have HB:Hid (∀W:World,Kp (fun k=>w.heap.size<k) w1 W->Calls prog 202 #[.slice a2 lk c2] W fun e w'=>∃a m c,e=.returned (.slice a m c)/\Ow Value.string 9 w' W.heap.size (.slice a m c) n.ks/\Kp none' W w'):=by
  intro W hk';refine(KP _ n.ks B W ((hS.keptN hK0).kept hk' (fun k hk h=>by omega)) hk).mono ?_;rintro e w' ⟨v',rfl,hO,hK⟩;obtain⟨a,m,c,rfl⟩:=Cl hO;exact⟨a,m,c,rfl,hO,hK⟩
 have HC:Hid (∀W:World,Kp (fun k=>w.heap.size<k) w1 W->Calls prog 132 #[.slice a3 ld c3] W fun e w'=>∃a m c,e=.returned (.slice a m c)/\Ow (Value.int .i64) 3 w' W.heap.size (.slice a m c) n.kd/\Kp none' W w'):=by
  intro W hk';refine(GM _ n.kd B W ((hD.keptN hK0).kept hk' (fun k hk h=>by omega)) hd).mono ?_;rintro e w' ⟨v',rfl,hO,hK⟩;obtain⟨a,m,c,rfl⟩:=Cl hO;exact⟨a,m,c,rfl,hO,hK⟩
 clear hP hS hD hwf hp hk hd nb;replace n2:=n2.kept (Kp.drew none' w1) (fun h=>h);refine wp_region_held_drew (S:=fun W=>Kp (fun k=>w.heap.size<k) w1 W) (by kernel_rfl) (Kp.drew _ _) (fun hHeld=>?_);refine Aa (i:=0) (d:=3) (v:=?_) rfl rfl (by kernel_rfl) (by kernel_rfl) (by kernel_rfl) (fun _ _ _ h=>h) (Or.inl ⟨by rfl,?_⟩) (by assumption) ?_;rotate_left
 ·intro W hSW;try dsimp only at hSW
  have g0:=f0 W hSW;have g1:=f1 W hSW;have g2:=f2 W hSW;have g3:=f3 W hSW;go_simp;try with_reducible rfl
 try simp only[Act.put,Qa,Qb,Qc]
 refine Aa (i:=1) (d:=4) (v:=?_) rfl rfl (by kernel_rfl) (by kernel_rfl) (by kernel_rfl) (fun _ _ _ h=>h) (Or.inl ⟨by rfl,?_⟩) (by assumption) ?_;rotate_left
 ·intro W hSW;try dsimp only at hSW
  have g0:=f0 W hSW;have g1:=f1 W hSW;have g2:=f2 W hSW;have g3:=f3 W hSW;go_simp;try with_reducible rfl
 try simp only[Act.put,Qa,Qb,Qc]
 refine Aa (i:=2) (d:=5) (v:=?_) rfl rfl (by kernel_rfl) (by kernel_rfl) (by kernel_rfl) (fun _ _ _ h=>h) (Or.inl ⟨by rfl,?_⟩) (by assumption) ?_;rotate_left
 ·intro W hSW;try dsimp only at hSW
  have g0:=f0 W hSW;have g1:=f1 W hSW;have g2:=f2 W hSW;have g3:=f3 W hSW;go_simp;try with_reducible rfl
 try simp only[Act.put,Qa,Qb,Qc]
 refine Aa (i:=3) (d:=6) (v:=?_) rfl rfl (by kernel_rfl) (by kernel_rfl) (by kernel_rfl) (fun _ _ _ h=>h) (Or.inl ⟨by rfl,?_⟩) (by assumption) ?_;rotate_left
 ·intro W hSW;try dsimp only at hSW
  have g0:=f0 W hSW;have g1:=f1 W hSW;have g2:=f2 W hSW;have g3:=f3 W hSW;go_simp;try with_reducible rfl
 try simp only[Act.put,Qa,Qb,Qc]
 refine Aa (i:=5) (d:=8) (v:=?_) rfl rfl (by kernel_rfl) (by kernel_rfl) (by kernel_rfl) (fun _ _ _ h=>h) (Or.inl ⟨by rfl,?_⟩) (by assumption) ?_;rotate_left
 ·intro W hSW;try dsimp only at hSW
  have g0:=f0 W hSW;have g1:=f1 W hSW;have g2:=f2 W hSW;have g3:=f3 W hSW;go_simp;try with_reducible rfl
 try simp only[Act.put,Qa,Qb,Qc]
 refine Aa (i:=6) (d:=9) (v:=?_) rfl rfl (by kernel_rfl) (by kernel_rfl) (by kernel_rfl) (fun _ _ _ h=>h) (Or.inl ⟨by rfl,?_⟩) (by assumption) ?_;rotate_left
 ·intro W hSW;try dsimp only at hSW
  have g0:=f0 W hSW;have g1:=f1 W hSW;have g2:=f2 W hSW;have g3:=f3 W hSW;go_simp;try with_reducible rfl
 try simp only[Act.put,Qa,Qb,Qc]
 refine Aa (i:=8) (d:=11) (v:=?_) rfl rfl (by kernel_rfl) (by kernel_rfl) (by kernel_rfl) (fun _ _ _ h=>h) (Or.inl ⟨by rfl,?_⟩) (by assumption) ?_;rotate_left
 ·intro W hSW;try dsimp only at hSW
  have g0:=f0 W hSW;have g1:=f1 W hSW;have g2:=f2 W hSW;have g3:=f3 W hSW;go_simp;try with_reducible rfl
 try simp only[Act.put,Qa,Qb,Qc]
 refine Aa (i:=9) (d:=12) (v:=?_) rfl rfl (by kernel_rfl) (by kernel_rfl) (by kernel_rfl) (fun _ _ _ h=>h) (Or.inl ⟨by rfl,?_⟩) (by assumption) ?_;rotate_left
 ·intro W hSW;try dsimp only at hSW
  have g0:=f0 W hSW;have g1:=f1 W hSW;have g2:=f2 W hSW;have g3:=f3 W hSW;go_simp;try with_reducible rfl
 try simp only[Act.put,Qa,Qb,Qc]
 refine wpAnyH_ready (rs:=[4]) (by kernel_rfl) (by simp) ?_;refine AllReadyH.cons rfl (fun K hK=>?_) ?_
 ·go_simp;go_wp2_with (go_at_call 201;refine(HA.out _ hHeld).mono ?_;rintro e wx4 ⟨bA,mA,dA,rfl,oP,hk4⟩);replace oP:=oP.mono hHeld.size;replace n2:=n2.kept hk4 (fun h=>h);refine hK.out _ _ (hHeld.thenN hk4) (fun hHeld=>?_);clear hK K;try simp only[Act.put,Qa,Qb,Qc]
  refine wpAnyH_ready (rs:=[7]) (by kernel_rfl) (by simp) ?_;refine AllReadyH.cons rfl (fun K hK=>?_) ?_
  ·go_simp;go_wp2_with (go_at_call 202;refine(HB.out _ hHeld).mono ?_;rintro e wx7 ⟨bB,mB,dB,rfl,oK,hk7⟩);replace oK:=oK.mem hHeld.size;replace oP:=oP.keptN hk7;replace n2:=n2.kept hk7 (fun h=>h);refine hK.out _ _ (hHeld.thenN hk7) (fun hHeld=>?_);clear hK K;try simp only[Act.put,Qa,Qb,Qc]
   refine wpAnyH_ready (rs:=[10]) (by kernel_rfl) (by simp) ?_;refine AllReadyH.cons rfl (fun K hK=>?_) ?_
   ·go_simp;go_wp2_with (go_at_call 132;refine(HC.out _ hHeld).mono ?_;rintro e wx10 ⟨bC,mC,dC,rfl,oD,hk10⟩);replace oD:=oD.mem hHeld.size;replace oP:=oP.keptN hk10;replace oK:=oK.keptN hk10;replace n2:=n2.kept hk10 (fun h=>h);refine hK.out _ _ (hHeld.thenN hk10) (fun hHeld=>?_);clear hK K;try simp only[Act.put,Qa,Qb,Qc]
    refine Aa (i:=11) (d:=14) (v:=?_) rfl rfl (by kernel_rfl) (by kernel_rfl) (by kernel_rfl) (fun _ _ _ h=>h) (Or.inl ⟨by rfl,?_⟩) (by assumption) ?_;rotate_left
    ·intro W hSW;try dsimp only at hSW
     go_simp;try with_reducible rfl
    try simp only[Act.put,Qa,Qb,Qc]
    refine wpAnyH_ready (rs:=[12]) (by kernel_rfl) (by simp) ?_;refine AllReadyH.cons rfl (fun K hK=>?_) ?_
    ·refine Ah (by rfl) (by rfl) (.tmp 2) (.tmp 14) (by rfl) (w.heap.size+1) (by rfl) (by rfl) n2 ?_;clear n2;intro wx12 n2 hk12;replace oP:=oP.kept hk12 (fun z hz e=>by have:=(oP.lt z hz).1;have:=HLT.out;unfold only at e;omega);replace oK:=oK.kept hk12 (fun z hz e=>by have:=(oK.lt z hz).1;have:=HLT.out;unfold only at e;omega);replace oD:=oD.kept hk12 (fun z hz e=>by have:=(oD.lt z hz).1;have:=HLT.out;unfold only at e;omega)
     refine hK.out _ _ (hHeld.trans hk12 (fun _ _ h=>h) (fun k _ e=>by unfold only at e;show _<_;omega)) (fun hHeld=>?_);clear hK K;try simp only[Act.put,Qa,Qb,Qc]
     refine wpAnyH_done (by kernel_rfl) ?_ _;try go_wp2
     refine bodyPost_ret (As rfl _ (w.heap.size+1) _ rfl n2) rfl ?_;exact⟨_,_,_,_,_,_,_,_,_,rfl,oP.mono (by have:=HLT.out;omega),oK.mem (by have:=HLT.out;omega),oD.mem (by have:=HLT.out;omega),hK0.trans hHeld (fun _ _ h=>h) (fun k hk h=>absurd hk (by have h':w.heap.size<k:=h;omega))⟩
    exact AllReadyH.nil
   exact AllReadyH.nil
  exact AllReadyH.nil
 exact AllReadyH.nil
def FrV(base hi:Nat)(y:Value):Prop:=∃l a1 n1 c1 a2 n2 c2 a3 n3 c3,y=.agg #[.bool l,.slice a1 n1 c1,.slice a2 n2 c2,.slice a3 n3 c3]/\∀k,(Value.slice a1 n1 c1).ownBlock=some k\/(Value.slice a2 n2 c2).ownBlock=some k\/(Value.slice a3 n3 c3).ownBlock=some k->base<=k/\k<hi
theorem FrV.of{base hi:Nat}{l:Bool}{a1 a2 a3:Option Addr}{n1 c1 n2 c2 n3 c3:Nat}(h1:∀k,(Value.slice a1 n1 c1).ownBlock=some k->base<=k/\k<hi)(h2:∀k,(Value.slice a2 n2 c2).ownBlock=some k->base<=k/\k<hi)(h3:∀k,(Value.slice a3 n3 c3).ownBlock=some k->base<=k/\k<hi):FrV base hi (.agg #[.bool l,.slice a1 n1 c1,.slice a2 n2 c2,.slice a3 n3 c3]) :=
 ⟨_,_,_,_,_,_,_,_,_,_,rfl,fun k e=>by rcases e with e|e|e;exact h1 k e;exact h2 k e;exact h3 k e⟩
theorem FrV.nil(base hi:Nat)(k:Nat)(e:(Value.slice none 0 0).ownBlock=some k):base<=k/\k<hi:=by cases e
theorem Nv.ownI{w:World}{v dv:Value}{ks:List ByteArray}{kd:List Int}(h:Sl Value.string w.heap.size w v ks)(hd:Sl (Value.int .i64) w.heap.size w dv kd)(hw:∀k∈ks,k.size<=maxLen)(hwd:∀z∈kd,-9223372036854775808<=z/\z<9223372036854775808):Nv w.heap.size w (.agg #[.bool false,.slice none 0 0,v,dv]) ⟨false,[],ks,kd⟩ :=
 ⟨⟨_,v,dv,rfl,Prs.nil _ _,h,hd⟩,⟨by simp,hw,hwd⟩⟩
set_option maxRecDepth 100000 in
theorem IW(x:Value)(n:Nd)(B:Nat)(w:World)(hN:Nv B w x n)(hB:B<=w.heap.size)(hl:n.leaf=true)(h2:2<=n.ps.length)(hp:n.ps.length<=1048576)(hsz:n.size<=4194304) :
  Calls prog 152 #[x] w fun e w'=>∃y z,e=.returned (.tuple #[y,z,.string n.mid])/\Nv w'.heap.size w' y n.fst/\Nv w'.heap.size w' z n.snd/\Kp none' w w'/\FrV w.heap.size w'.heap.size y/\FrV w.heap.size w'.heap.size z:=by
 have HPA:n.parts=true:=by unfold Nd.parts;simp[hl,h2]
 have HF:Hid (n.fst=⟨true,n.ps.take n.at_,[],[]⟩):=by show _=_;unfold Nd.fst;rw[HPA];simp[hl]
 have HS:Hid (n.snd=⟨true,n.ps.drop n.at_,[],[]⟩):=by show _=_;unfold Nd.snd;rw[HPA];simp[hl]
 have HM:Hid (n.mid=(n.ps.getD n.at_ ⟨⟨#[]⟩,⟨#[]⟩⟩).k):=by show _=_;unfold Nd.mid;rw[HPA];simp[hl]
 have HSUM:n.size=2+(n.ps.map Pr.size).sum:=by unfold Nd.size;simp[hl]
 have HAT:splG (fun j=>Pr.size (n.ps.getD j ⟨⟨#[]⟩,⟨#[]⟩⟩)) (n.ps.map Pr.size).sum (n.ps.length - 1) n.ps.length 1 (Pr.size (n.ps.getD 0 ⟨⟨#[]⟩,⟨#[]⟩⟩))=n.at_:=by
  unfold Nd.at_;rw[hl,if_pos rfl,HSUM,Nat.add_sub_cancel_left]
 obtain⟨h1,hlt,_,_⟩:=GK hl h2;rw[HF.out,HS.out,HM.out];have hwp:=hN.wf.p;obtain⟨⟨pv,kv,dv,rfl,hP,hS,hD⟩,hwf⟩:=hN;obtain⟨A,HA⟩:∃q,Hid (n.at_=q):=⟨_,rfl⟩;rw[HA.out]at HAT hlt |-;obtain⟨key,HK⟩:∃q,Hid ((n.ps.getD A ⟨⟨#[]⟩,⟨#[]⟩⟩).k=q):=⟨_,rfl⟩;rw[HK.out];have hkey:n.ps[A].k=key:=by rw[<-HK.out,List.getD_eq_getElem?_getD,List.getElem?_eq_getElem hlt];rfl
 obtain⟨a1,c1,e1,_⟩:=id hP;obtain⟨a2,c2,e2,_⟩:=id hS;obtain⟨a3,c3,e3,_⟩:=id hD;subst e1 e2 e3;rw[hl];have nb:=((Nb.new w true (.slice a1 n.ps.length c1) (.slice a2 n.ks.length c2) (.slice a3 n.kd.length c3)).kept (Kp.alloc none' _ (.cells #[.bool false,.slice none 0 0,.slice none 0 0,.slice none 0 0] 35)) (fun h=>h)).kept (Kp.alloc none' _ (.cells #[.bool false,.slice none 0 0,.slice none 0 0,.slice none 0 0] 35)) (fun h=>h)
 have n2:=(Nb.new (w.alloc (.cells #[.bool true,.slice a1 n.ps.length c1,.slice a2 n.ks.length c2,.slice a3 n.kd.length c3] 35)) false (.slice none 0 0) (.slice none 0 0) (.slice none 0 0)).kept (Kp.alloc none' _ (.cells #[.bool false,.slice none 0 0,.slice none 0 0,.slice none 0 0] 35)) (fun h=>h)
 have n3:=Nb.new ((w.alloc (.cells #[.bool true,.slice a1 n.ps.length c1,.slice a2 n.ks.length c2,.slice a3 n.kd.length c3] 35)).alloc (.cells #[.bool false,.slice none 0 0,.slice none 0 0,.slice none 0 0] 35)) false (.slice none 0 0) (.slice none 0 0) (.slice none 0 0);rw[show (w.alloc (.cells #[.bool true,.slice a1 n.ps.length c1,.slice a2 n.ks.length c2,.slice a3 n.kd.length c3] 35)).heap.size=w.heap.size+1 by simp]at n2
 rw[show ((w.alloc (.cells #[.bool true,.slice a1 n.ps.length c1,.slice a2 n.ks.length c2,.slice a3 n.kd.length c3] 35)).alloc (.cells #[.bool false,.slice none 0 0,.slice none 0 0,.slice none 0 0] 35)).heap.size=w.heap.size+1+1 by simp]at n3
 have hK0:Kp none' w (((w.alloc (.cells #[.bool true,.slice a1 n.ps.length c1,.slice a2 n.ks.length c2,.slice a3 n.kd.length c3] 35)).alloc (.cells #[.bool false,.slice none 0 0,.slice none 0 0,.slice none 0 0] 35)).alloc (.cells #[.bool false,.slice none 0 0,.slice none 0 0,.slice none 0 0] 35)):=((Kp.alloc _ _ _).thenN (Kp.alloc _ _ _)).thenN (Kp.alloc _ _ _)
 have HSL:Hid (∀W:World,Kp none' w W->Calls prog 174 #[.slice a1 n.ps.length c1] W fun e w'=>∃a m c a' m' c',e=.returned (.tuple #[.agg #[.bool true,.slice a m c,.slice none 0 0,.slice none 0 0],.agg #[.bool true,.slice a' m' c',.slice none 0 0,.slice none 0 0],.string key])/\OwP w' W.heap.size (.slice a m c) (n.ps.take A)/\OwP w' W.heap.size (.slice a' m' c') (n.ps.drop A)/\Kp none' W w'):=fun W hk=>F0 _ n.ps B W (hP.keptN hk) (Nat.le_trans hB hk.size) h2 (by omega) (by omega) A HAT hlt key hkey
 have h2i:(2:Int)<=(n.ps.length:Int):=by omega
 have HWA:Hid (∀p∈n.ps.take A,p.k.size<=maxLen/\p.v.size<=maxLen):=fun p hp=>hwp p (List.mem_of_mem_take hp);have HWD:Hid (∀p∈n.ps.drop A,p.k.size<=maxLen/\p.v.size<=maxLen):=fun p hp=>hwp p (List.mem_of_mem_drop hp);clear hP hS hD hwf hkey HAT hwp hsz hp HSUM HPA;go_enter func152,ntmps152;go_upto_region 1 with fail
 generalize ((w.alloc (.cells #[.bool true,.slice a1 n.ps.length c1,.slice a2 n.ks.length c2,.slice a3 n.kd.length c3] 35)).alloc (.cells #[.bool false,.slice none 0 0,.slice none 0 0,.slice none 0 0] 35)).alloc (.cells #[.bool false,.slice none 0 0,.slice none 0 0,.slice none 0 0] 35)=w0 at *;have d0:=nb.c0;have d1:=nb.c1;have HLT:Hid (w.heap.size+1+1<w0.heap.size):=n3.lt;go_wp2_with (first
  | (go_at_call 174;refine(HSL.out _ hK0).mono ?_;rintro e w1 ⟨a4,m4,c4,a5,m5,c5,rfl,hO1,hO2,hK1⟩;replace n2:=n2.kept hK1 (fun h=>h);replace n3:=n3.kept hK1 (fun h=>h))
  | (refine Af rfl rfl (.tmp 2) (.tmp 16) rfl (w.heap.size+1) rfl rfl n2 ?_;clear n2;intro w2 n2 hK2;replace n3:=Aw n3 (by omega) hK2)
  | (refine Af rfl rfl (.tmp 3) (.tmp 17) rfl (w.heap.size+1+1) rfl rfl n3 ?_;clear n3;intro w3 n3 hK3;replace n2:=Aw n2 (by omega) hK3)
  | fail)
 refine bodyPost_ret (AL rfl _ (w.heap.size+1) (w.heap.size+1+1) _ (.string key) rfl rfl rfl n2 n3) rfl ?_;have k2:Kp none' w w3:=Ax (Ax (hK0.thenN hK1) (by omega) hK2) (by omega) hK3;replace hO1:=(hO1.kept hK2 (fun z hz e=>by have:=(hO1.lt z hz).1;have:=HLT.out;unfold only at e;omega));replace hO1:=(hO1.kept hK3 (fun z hz e=>by have:=(hO1.lt z hz).1;have:=HLT.out;unfold only at e;omega))
 replace hO2:=(hO2.kept hK2 (fun z hz e=>by have:=(hO2.lt z hz).1;have:=HLT.out;unfold only at e;omega));replace hO2:=(hO2.kept hK3 (fun z hz e=>by have:=(hO2.lt z hz).1;have:=HLT.out;unfold only at e;omega))
 exact⟨_,_,rfl,Nv.own hO1.prs HWA.out,Nv.own hO2.prs HWD.out,k2,FrV.of (fun k e=>by have:=hO1.lt k e;have:=HLT.out;first|omega|(have:=hK3.size;omega)) (FrV.nil _ _) (FrV.nil _ _),FrV.of (fun k e=>by have:=hO2.lt k e;have:=HLT.out;first|omega|(have:=hK3.size;omega)) (FrV.nil _ _) (FrV.nil _ _)⟩
end Go.Proofs.YtgcgacjhkhjhmaaGreatDoor
