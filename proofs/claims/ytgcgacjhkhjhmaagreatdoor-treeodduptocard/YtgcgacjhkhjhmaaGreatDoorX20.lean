/- Part of the proof: contracts over the turned program. -/
import Derived.Test.YtgcgacjhkhjhmaaGreatDoorX19
set_option linter.unusedVariables false
set_option maxHeartbeats 4000000
open Go.Proofs.Tryz
namespace Go.Proofs.YtgcgacjhkhjhmaaGreatDoor
open Go.RowKit
open Go.ChangeMaps (setBlock)
set_option maxRecDepth 100000 in
theorem C7(c g:Nat)(w:World)(h0:w.cell? ⟨c,0,none⟩=some (.pointer (some ⟨g,0,none⟩))):Calls prog 79 #[.pointer (some ⟨c,0,none⟩)] w fun e w'=>e=.returned (.bool true)/\w'=w:=by
 go_enter func79,ntmps79;go_wp2;go_ret;exact⟨rfl,rfl⟩
set_option maxRecDepth 100000 in
theorem Il(c g:Nat)(cm:Int)(w:World)(h0:w.cell? ⟨c,0,none⟩=some (.pointer (some ⟨g,0,none⟩)))(h6:w.cell? ⟨c,6,none⟩=some (.int .i64 cm))(hg:w.cell? ⟨g,2,none⟩=some (.int .i64 cm)) :
  Calls prog 116 #[.pointer (some ⟨c,0,none⟩)] w fun e w'=>e=.returned (.tuple #[])/\Kp none' w w':=by
 have hk:=Kp.alloc none' w (.cells #[.pointer (some ⟨c,0,none⟩)] 57);have r1:=Am w #[.pointer (some ⟨c,0,none⟩)] 57 0 _ rfl;obtain⟨b,HB⟩:∃b,Hid (w.heap.size=b):=⟨_,rfl⟩;rw[HB.out]at r1;go_enter func116,ntmps116;go_upto_region 1 with fail;rw[HB.out];obtain⟨W1,H1⟩:∃W1,Hid (w.alloc (.cells #[.pointer (some ⟨c,0,none⟩)] 57)=W1):=⟨_,rfl⟩;rw[H1.out]at hk r1 |-;have q0:=hk.cell h0 (fun h=>h);have q6:=hk.cell h6 (fun h=>h);have qg:=hk.cell hg (fun h=>h);have hcc:(cm==cm)=true:=by simp
 have qgd:W1.drew.cell? ⟨g,2,none⟩=some (.int .i64 cm):=qg;have t3:W1.drew.cell? ⟨b,0,none⟩=some (.pointer (some ⟨c,0,none⟩))/\W1.drew.cell? ⟨c,0,none⟩=some (.pointer (some ⟨g,0,none⟩))/\W1.drew.cell? ⟨c,6,none⟩=some (.int .i64 cm):=⟨r1,q0,q6⟩;go_region_held_law (fun W=>W.cell? ⟨b,0,none⟩=some (.pointer (some ⟨c,0,none⟩))/\W.cell? ⟨c,0,none⟩=some (.pointer (some ⟨g,0,none⟩))/\W.cell? ⟨c,6,none⟩=some (.int .i64 cm)) (first|assumption) (first
  | (go_at_call 45;refine(DY g cm _ qgd).mono ?_;rintro e w' ⟨rfl,rfl⟩)
  | fail)
 go_wp2;first|go_end0|((try simp only[Exit.inBlock,Exit.then]);refine bodyPost_ret (results_none rfl _ _ _) rfl ?_)
 exact⟨rfl,hk.then (Kp.drew _ _)⟩
theorem Ca.rest{w w':World}{q:Cq}{D:Dv}{Q:Nat->ByteArray}{M cm:Int}{L:List Nat}{N:Nat->Int}{T:Nat->ByteArray}{h mi:Int}{S:Nat->Prop}(H:Ca w q D Q M cm L N T h mi)(hk:Kp S w w')(hS:∀k,q.p.mem k\/k=q.g->¬S k) :
  Rest w' q.p D q.n Q M/\Pag w' q.g q.p q.n cm (.slice none 0 0) [] :=
 ⟨H.hR.kept hk (fun k hm=>hS k (.inl hm)),⟨hk.cell H.hP.c0 (hS _ (.inr rfl)),hk.cell H.hP.c1 (hS _ (.inr rfl)),hk.cell H.hP.c2 (hS _ (.inr rfl)),hk.cell H.hP.c3 (hS _ (.inr rfl)),fun j=>by rw[hk.frozen H.hP.lt (hS _ (.inr rfl))];exact H.hP.fr j,Chs.nil _ _,H.hP.gp⟩⟩
theorem Ca.apart{w:World}{q:Cq}{D:Dv}{Q:Nat->ByteArray}{M cm:Int}{L:List Nat}{N:Nat->Int}{T:Nat->ByteArray}{h mi:Int}(H:Ca w q D Q M cm L N T h mi)(k:Nat)(hk:q.p.mem k\/k=q.g):k≠q.c/\k≠q.m/\k ∉ q.s::L:=by
 rcases hk with e|e
 ·exact H.s1 k e
 ·rw[e];exact H.s2
set_option maxRecDepth 100000 in
theorem OZ{w:World}{q:Cq}{D:Dv}{Q:Nat->ByteArray}{M cm:Int}{p r:List Nat}{x:Nat}{N:Nat->Int}{T:Nat->ByteArray}{h mi:Int}(H:Ca w q D Q M cm (p++x::r) N T h mi)(h0:0<=h)(h1:h<=1000000000) :
  Calls prog 81 #[.pointer (some ⟨q.c,0,none⟩),.pointer (some ⟨x,0,none⟩)] w fun e w'=>e=.returned (.string (T x))/\Ca w' q D Q M cm (x::(p++r)) N T (h+1) mi/\Kp (q.foot (p++x::r)) w w':=by
 obtain⟨ah,be,hr⟩:=H.rg;have hcu:=Il q.c q.g cm w H.cc.c0 H.cc.c6 H.hP.c2;have hc:q.c ∉ q.s::(p++x::r):=H.s3.2;have hw:wrap64 (h+1)=h+1:=by unfold wrap64;omega
 go_enter func81,ntmps81;go_upto_region 2 with (first
  | (go_at_call 116;refine hcu.mono ?_;rintro e w1 ⟨rfl,hk1⟩)
  | fail)
 have C1:=H.cc.kept hk1 (fun h=>h);have c4:=C1.c4;have f4:=C1.cf 4;have p4:=Put.set w1 q.c 4 (.int .i64 (h+1)) _ c4;have C2:=C1.put4 p4;have hk2:Kp (only q.c) w (w1.setCell ⟨q.c,4,none⟩ (.int .i64 (h+1))):=hk1.nThen p4.kp;have hr2:=hr.kept hk2 (fun y hy e=>hc (by rw[show y=q.c from e]at hy;exact hy));obtain⟨W2,HW2⟩:∃W2,Hid (w1.setCell ⟨q.c,4,none⟩ (.int .i64 (h+1))=W2):=⟨_,rfl⟩;rw[HW2.out]at C2 hk2 hr2;have hle:=Fm hr2;go_upto_region 4 with (first
  | (rw[HW2.out];go_at_call 117;refine hle.mono ?_;rintro e w3 ⟨rfl,ah3,be3,hr3,hx3,hk3,_⟩)
  | fail)
 have sub3:∀k,k∈q.s::(p++r)->k∈q.s::(p++x::r):=fun k hk=>by
  simp only[List.mem_cons,List.mem_append]at hk |-;rcases hk with e|e|e
  ·exact .inl e
  ·exact .inr (.inl e)
  ·exact .inr (.inr (.inr e))
 have hnx:x ∉ q.s::(p++r):=by
  intro hz;have hn:=hr.nd;simp only[List.nodup_cons,List.nodup_append,List.mem_append,List.mem_cons]at hn hz;rcases hz with e|e|e
  ·exact hn.1 (.inr (.inl e.symm))
  ·exact hn.2.2.2 x e x (.inl rfl) rfl
  ·exact hn.2.2.1.1 e
 have C3:=C2.kept hk3 (fun hm=>hc (sub3 _ hm));have hjo:=LX hr3 hx3 hnx;have d2:=C3.c2;go_upto_region 5 with (first
  | (go_at_call 118;refine hjo.mono ?_;rintro e w5 ⟨rfl,ah5,be5,hr5,hk5⟩)
  | fail)
 have sub5:∀k,k∈q.s::x::(p++r)->k∈q.s::(p++x::r):=fun k hk=>by
  simp only[List.mem_cons,List.mem_append]at hk |-;rcases hk with e|e|e|e
  ·exact .inl e
  ·exact .inr (.inr (.inl e))
  ·exact .inr (.inl e)
  ·exact .inr (.inr (.inr e))
 have sub6:∀k,k∈q.s::(p++x::r)->k∈q.s::x::(p++r):=fun k hk=>by
  simp only[List.mem_cons,List.mem_append]at hk |-;rcases hk with e|e|e|e
  ·exact .inl e
  ·exact .inr (.inr (.inl e))
  ·exact .inr (.inl e)
  ·exact .inr (.inr (.inr e))
 have C5:=C3.kept hk5 (fun hm=>hc (sub5 _ hm));have d1:=(hr5.rm x (by simp)).c1;have K5:Kp (fun k=>k=q.c\/k∈q.s::(p++x::r)) w w5:=((hk2.mono (fun k _ e=>.inl e)).then (hk3.mono (fun k _ e=>.inr (sub3 k e)))).then (hk5.mono (fun k _ e=>.inr (sub5 k e)));have hne:∀k,q.p.mem k\/k=q.g->¬(k=q.c\/k∈q.s::(p++x::r)):=fun k hk e=>by
  have:=H.apart k hk;rcases e with e|e
  ·exact this.1 e
  ·exact this.2.2 e
 have hRP:=H.rest K5 hne;have hm5:Mc w5 q.m (p++x::r) N:=H.mc.kept K5 (fun e=>by
  rcases e with e|e
  ·exact H.s3.1 e.symm
  ·exact H.s4 e)
 have hperm:∀y,y∈x::(p++r)↔y∈p++x::r:=fun y=>by simp only[List.mem_cons,List.mem_append];exact⟨fun h=>by rcases h with h|h|h;exact .inr (.inl h);exact .inl h;exact .inr (.inr h),fun h=>by rcases h with h|h|h;exact .inr (.inl h);exact .inl h;exact .inr (.inr h)⟩
 have hnd:((x::(p++r)).map N).Nodup:=by
  have:=H.nd;rw[List.map_append,List.map_cons]at this;rw[List.map_cons,List.map_append];exact(List.perm_middle.nodup_iff).1 this
 have hfin:Ca w5 q D Q M cm (x::(p++r)) N T (h+1) mi:=⟨hRP.1,H.st,hRP.2,C5,⟨ah5,be5,hr5⟩,hm5.perm hperm,hnd,fun y hy=>H.da y ((hperm y).1 hy),
  fun k hk=>⟨(H.s1 k hk).1,(H.s1 k hk).2.1,fun hm=>(H.s1 k hk).2.2 (sub5 k hm)⟩,⟨H.s2.1,H.s2.2.1,fun hm=>H.s2.2.2 (sub5 _ hm)⟩,⟨H.s3.1,fun hm=>H.s3.2 (sub5 _ hm)⟩,fun hm=>H.s4 (sub5 _ hm),H.n2,H.hQ,H.sm⟩
 have HF:=hide hfin;have HK:=hide K5;clear hfin K5;go_wp2;go_ret;exact⟨rfl,HF.out,HK.out.mono (fun k _ e=>by
  rcases e with e|e
  ·exact .inr (.inr (.inl e))
  ·exact .inr (.inr (.inr (.inr e))))⟩
theorem Mc.del{w':World}{m:Nat}{L:List Nat}{x:Nat}{N:Nat->Int}{es:Array MapEntry}{cl:Nat}{c:Int->Option Value}(hb:w'.heap[m]?=some (.map es cl))(hM:Mi (delI c (N x)) es.toList cl)(hO:MapOf (L++[x]) N c)(hnd:((L++[x]).map N).Nodup):Mc w' m L N:=by
 refine⟨es,cl,_,hb,hM,fun z v=>?_⟩;have hx:N x ∉ L.map N:=fun hm=>by
  rw[List.map_append,List.nodup_append]at hnd;exact hnd.2.2 _ hm (N x) (by simp) rfl
 constructor
 ·intro h;by_cases e:z=N x
  ·simp[delI,e]at h
  ·simp only[delI,e,if_false]at h;obtain⟨y,hy,h1,h2⟩:=(hO z v).1 h;rcases List.mem_append.1 hy with hy|hy
   ·exact⟨y,hy,h1,h2⟩
   ·have:y=x:=by simpa using hy
    subst this;exact absurd h1.symm e
 ·rintro ⟨y,hy,h1,h2⟩;have e:z≠N x:=fun e=>hx (by rw[<-e,<-h1];exact List.mem_map_of_mem hy);simp only[delI,e,if_false];exact(hO z v).2 ⟨y,List.mem_append.2 (.inl hy),h1,h2⟩
set_option maxRecDepth 100000 in
theorem GP{w:World}{q:Cq}{D:Dv}{Q:Nat->ByteArray}{M cm:Int}{L:List Nat}{x:Nat}{N:Nat->Int}{T:Nat->ByteArray}{h mi:Int}(H:Ca w q D Q M cm (L++[x]) N T h mi) :
  Calls prog 121 #[.pointer (some ⟨q.c,0,none⟩)] w fun e w'=>e=.returned (.tuple #[])/\Ca w' q D Q M cm L N T h mi/\Kp (q.foot (L++[x])) w w':=by
 obtain⟨ah,be,hr⟩:=H.rg;have c2:=H.cc.c2;have hla:=LY hr;go_enter func121,ntmps121;go_upto_region 1 with (first
  | (go_at_call 149;refine hla.mono ?_;rintro e w1 ⟨rfl,hk1⟩)
  | fail)
 have hr1:=hr.kept hk1 (fun _ _ h=>h);have hle:=Fm hr1;go_upto_region 2 with (first
  | (go_at_call 117;refine hle.mono ?_;rintro e w3 ⟨rfl,ah3,be3,hr3,hx3,hk3,_⟩)
  | fail)
 rw[List.append_nil]at hr3 hk3;have sub:∀k,k∈q.s::L->k∈q.s::(L++[x]):=fun k hk=>by
  simp only[List.mem_cons,List.mem_append]at hk |-;rcases hk with e|e
  ·exact .inl e
  ·exact .inr (.inl e)
 have K3:Kp (fun k=>k∈q.s::L) w w3:=hk1.nThen hk3;have C3:=H.cc.kept K3 (fun hm=>H.s3.2 (sub _ hm));have m3:=H.mc.kept K3 (fun hm=>H.s4 (sub _ hm));obtain⟨es,cl,c,hm,hM,hO⟩:=m3;have hmd:w3.drew.heap[q.m]?=some (.map es cl):=hm;obtain⟨n,HN⟩:∃n,Hid (N x=n):=⟨_,rfl⟩;obtain⟨es',cl',hdel,hM'⟩:=Oj (t:=109) (e:=103) (ty:=0) underlying109 hmd hM (N x);have d3:=C3.c3;have d0:=hx3.c0;rw[HN.out]at d0 hdel;have hne:∀k,q.p.mem k\/k=q.g->¬(k=q.m\/k∈q.s::L):=fun k hk e=>by
  have:=H.apart k hk;rcases e with e|e
  ·exact this.2.1 e
  ·exact this.2.2 (sub _ e)
 have KS:=Kp.setBlock (S:=only q.m) w3.drew q.m (.map es' cl') rfl;have K5:Kp (fun k=>k=q.m\/k∈q.s::L) w (setBlock w3.drew q.m (.map es' cl')):=((K3.then (Kp.drew _ _)).mono (fun k _ e=>.inr e)).then (KS.mono (fun k _ e=>.inl e));have hRP:=H.rest K5 hne;have C5:=H.cc.kept K5 (fun e=>by
  rcases e with e|e
  ·exact H.s3.1 e
  ·exact H.s3.2 (sub _ e))
 have R5:=(hr3.kept (Kp.drew none' w3) (fun _ _ h=>h)).kept KS (fun y hy e=>H.s4 (by rw[show y=q.m from e]at hy;exact sub _ hy));have hb5:(setBlock w3.drew q.m (.map es' cl')).heap[q.m]?=some (.map es' cl'):=(MapKept.heap_set hmd).1;have M5:=Mc.del hb5 hM' hO H.nd;have hnd:(L.map N).Nodup:=by
  have:=H.nd;rw[List.map_append,List.nodup_append]at this;exact this.1
 have hfin:Ca (setBlock w3.drew q.m (.map es' cl')) q D Q M cm L N T h mi:=⟨hRP.1,H.st,hRP.2,C5,⟨ah3,be3,R5⟩,M5,hnd,fun y hy=>H.da y (List.mem_append.2 (.inl hy)),
  fun k hk=>⟨(H.s1 k hk).1,(H.s1 k hk).2.1,fun hm=>(H.s1 k hk).2.2 (sub k hm)⟩,⟨H.s2.1,H.s2.2.1,fun hm=>H.s2.2.2 (sub _ hm)⟩,⟨H.s3.1,fun hm=>H.s3.2 (sub _ hm)⟩,fun hm=>H.s4 (sub _ hm),H.n2,H.hQ,H.sm⟩
 have HF:=hide hfin;have HK:=hide K5;clear hfin K5 hRP C5 R5 hb5 M5;go_region;all_goals first|go_end0|((try simp only[Exit.inBlock,Exit.then]);refine bodyPost_ret (results_none rfl _ _ _) rfl ?_)
 all_goals exact⟨rfl,HF.out,HK.out.mono (fun k _ e=>by
  rcases e with e|e
  ·exact .inr (.inr (.inr (.inl e)))
  ·exact .inr (.inr (.inr (.inr (sub _ e)))))⟩
theorem Ok{w:World}{m:Nat}{es:Array MapEntry}{cl:Nat}{t e ty:TypeId}(ht:prog.underlying t=some (.map 3 e))(hm:w.heap[m]?=some (.map es cl)):(Builtin.len_ #[t] ty #[.map (some m)]).run prog w=.ok (.int .i64 (es.size:Int)) w:=by
 have h1:(#[t]:Array TypeId)[0]?=some t:=rfl;have h2:(#[Value.map (some m)]:Array Value)[0]?=some (.map (some m)):=rfl;simp only[Builtin.len_,h1,h2,Sem.run_bind,run_underlying ht,Result.andThen_ok,MapKept.run_getObj_map hm,Sem.run_pure];rfl
theorem Mc.put{w':World}{m:Nat}{L:List Nat}{x:Nat}{N:Nat->Int}{n:Int}{es:Array MapEntry}{cl:Nat}{c:Int->Option Value}(hb:w'.heap[m]?=some (.map es cl))(hM:Mi (putI c n (.pointer (some ⟨x,0,none⟩))) es.toList cl)(hO:MapOf L N c)(hn:n ∉ L.map N)(hx:x ∉ L):Mc w' m (x::L) (updF' N x n):=by
 refine⟨es,cl,_,hb,hM,fun z v=>?_⟩;have hN:∀y∈L,updF' N x n y=N y:=fun y hy=>by unfold updF';rw[if_neg (fun e=>hx (by rw[<-e];exact hy))]
 have hNx:updF' N x n x=n:=by simp[updF']
 constructor
 ·intro h;by_cases e:z=n
  ·simp only[putI,e,if_true,Option.some.injEq]at h;exact⟨x,List.mem_cons_self,by rw[hNx,e],h.symm⟩
  ·simp only[putI,e,if_false]at h;obtain⟨y,hy,h1,h2⟩:=(hO z v).1 h;exact⟨y,List.mem_cons_of_mem _ hy,by rw[hN y hy];exact h1,h2⟩
 ·rintro ⟨y,hy,h1,h2⟩;rcases List.mem_cons.1 hy with rfl|hy
  ·rw[hNx]at h1;simp[putI,h1,h2]
  ·rw[hN y hy]at h1;have e:z≠n:=fun e=>hn (by rw[<-e,<-h1];exact List.mem_map_of_mem hy);simp only[putI,e,if_false];exact(hO z v).2 ⟨y,hy,h1,h2⟩
theorem O8{L:List Nat}{x:Nat}{N:Nat->Int}{n:Int}(hx:x ∉ L):(x::L).map (updF' N x n)=n::L.map N:=by
 rw[List.map_cons];congr 1
 ·simp[updF']
 ·apply List.map_congr_left;intro y hy;unfold updF';rw[if_neg (fun e=>hx (by rw[<-e];exact hy))]
set_option maxRecDepth 100000 in
theorem NU{w:World}{q:Cq}{D:Dv}{Q:Nat->ByteArray}{M cm:Int}{L:List Nat}{N:Nat->Int}{T:Nat->ByteArray}{h mi:Int}(H:Ca w q D Q M cm L N T h mi)(hl:L.length<=q.sz)(k:Nat)(hk:k<q.n)(hn:(k:Int) ∉ L.map N)(h0:0<=mi)(h1:mi<=1000000000) :
  Calls prog 83 #[.pointer (some ⟨q.c,0,none⟩),.agg #[.int .i64 (k:Int),.string (Q k)]] w fun e w'=>e=.returned (.tuple #[])/\∃L' N' T',Ca w' q D Q M cm L' N' T' h (mi+1)/\L'.map N'=((k:Int)::L.map N).take q.sz /\
   Kp (q.foot L) w w'/\∀j,q.foot L' j->q.foot L j\/w.heap.size<=j:=by
 obtain⟨X,HX⟩:∃X,Hid (Q k=X):=⟨_,rfl⟩;rw[HX.out];have k1:=Kp.alloc none' w (.cells #[.int .i64 (k:Int),.string X] 108);have r0:=Am w #[.int .i64 (k:Int),.string X] 108 0 _ rfl;have r1:=Am w #[.int .i64 (k:Int),.string X] 108 1 _ rfl;obtain⟨b,HB⟩:∃b,Hid (w.heap.size=b):=⟨_,rfl⟩;obtain⟨W1,H1⟩:∃W1,Hid (w.alloc (.cells #[.int .i64 (k:Int),.string X] 108)=W1):=⟨_,rfl⟩;rw[H1.out]at k1 r0 r1;rw[HB.out]at r0 r1;have A1:=H.keptN k1
 have hbf:∀j,q.foot L j->j≠b:=fun j hj e=>by have:=H.lt j hj;have:=HB.out;omega
 have hw:wrap64 (mi+1)=mi+1:=by unfold wrap64;omega
 have c5:=A1.cc.c5;have f5:=A1.cc.cf 5;go_enter func83,ntmps83;go_upto_region 1 with fail;rw[H1.out,HB.out];have p5:=Put.set W1 q.c 5 (.int .i64 (mi+1)) _ c5;go_upto_region 2 with fail;obtain⟨W2,H2⟩:∃W2,Hid (W1.setCell ⟨q.c,5,none⟩ (.int .i64 (mi+1))=W2):=⟨_,rfl⟩;rw[H2.out]at p5 |-;have C2:=A1.cc.put5 p5;obtain⟨ah,be,hr1⟩:=A1.rg;have hr2:=hr1.kept p5.kp (fun y hy e=>H.s3.2 (by rw[show y=q.c from e]at hy;exact hy));have M2:=A1.mc.kept p5.kp (fun e=>H.s3.1 (Eq.symm e))
 have K2:Kp (only q.c) w W2:=k1.nThen p5.kp;have hrd:=hr2.kept (Kp.drew none' W2) (fun _ _ h=>h);have hpu:=Oe (k:Int) X hrd;have hbc:q.c≠b:=hbf _ (.inr (.inr (.inl rfl)));have hbs:b ∉ q.s::L:=fun hm=>hbf b (.inr (.inr (.inr (.inr hm)))) rfl;have hbm:q.m≠b:=hbf _ (.inr (.inr (.inr (.inl rfl))))
 have t0:W2.drew.cell? ⟨q.c,3,none⟩=some (.map (some q.m))/\W2.drew.cell? ⟨q.c,2,none⟩=some (.pointer (some ⟨q.s,0,none⟩))/\W2.drew.cell? ⟨b,0,none⟩=some (.int .i64 (k:Int))/\W2.drew.cell? ⟨b,1,none⟩=some (.string X) :=
  ⟨C2.c3,C2.c2,by show W2.cell? _=_;rw[p5.old _ _ (.inl (Ne.symm hbc))];exact r0,by show W2.cell? _=_;rw[p5.old _ _ (.inl (Ne.symm hbc))];exact r1⟩
 have hsb:W2.heap.size=W1.heap.size:=p5.sz;have hs1:w.heap.size<=W2.heap.size:=K2.size;have HPM:Hid (∀(w3:World) (x:Nat),Kp (fun k=>k∈q.s::L) W2.drew w3->∃es cl c es' cl',w3.heap[q.m]?=some (.map es cl)/\MapOf L N c/\(Instr.mapUpdate 109 (.map (some q.m)) (.int .i64 (k:Int)) (.pointer (some ⟨x,0,none⟩))).run prog w3=.ok () (setBlock w3 q.m (.map es' cl'))/\Mi (putI c (k:Int) (.pointer (some ⟨x,0,none⟩))) es'.toList cl'):=fun w3 x hk3=>by
  obtain⟨es,cl,c,hm,hM,hO⟩:=(M2.kept (Kp.drew none' W2) (fun h=>h)).kept hk3 H.s4;obtain⟨es',cl',hput,hM'⟩:=Om (t:=109) (e:=103) underlying109 hm hM (k:Int) (.pointer (some ⟨x,0,none⟩));exact⟨es,cl,c,es',cl',hm,hO,hput,hM'⟩
 have kS:∀(W:World) (o:Obj),(W.cell? ⟨q.c,3,none⟩=some (.map (some q.m))/\W.cell? ⟨q.c,2,none⟩=some (.pointer (some ⟨q.s,0,none⟩))/\W.cell? ⟨b,0,none⟩=some (.int .i64 (k:Int))/\W.cell? ⟨b,1,none⟩=some (.string X)) ->
   ((setBlock W q.m o).cell? ⟨q.c,3,none⟩=some (.map (some q.m))/\(setBlock W q.m o).cell? ⟨q.c,2,none⟩=some (.pointer (some ⟨q.s,0,none⟩))/\(setBlock W q.m o).cell? ⟨b,0,none⟩=some (.int .i64 (k:Int))/\(setBlock W q.m o).cell? ⟨b,1,none⟩=some (.string X)):=fun W o h=>by
  have ks:=Kp.setBlock (S:=only q.m) W q.m o rfl;exact⟨ks.cell h.1 H.s3.1,ks.cell h.2.1 H.s3.1,ks.cell h.2.2.1 (Ne.symm hbm),ks.cell h.2.2.2 (Ne.symm hbm)⟩
 clear M2;go_region_held_law (fun W=>W.cell? ⟨q.c,3,none⟩=some (.map (some q.m))/\W.cell? ⟨q.c,2,none⟩=some (.pointer (some ⟨q.s,0,none⟩))/\W.cell? ⟨b,0,none⟩=some (.int .i64 (k:Int))/\W.cell? ⟨b,1,none⟩=some (.string X)) (first|assumption|exact kS _ _ (by assumption)) (first
  | (go_at_call 120;refine hpu.mono ?_;rintro e w3 ⟨x,ah3,be3,rfl,hx3,hr3,hk3⟩;have T3:w3.cell? ⟨q.c,3,none⟩=some (.map (some q.m))/\w3.cell? ⟨q.c,2,none⟩=some (.pointer (some ⟨q.s,0,none⟩))/\w3.cell? ⟨b,0,none⟩=some (.int .i64 (k:Int))/\w3.cell? ⟨b,1,none⟩=some (.string X):=⟨hk3.cell t0.1 H.s3.2,hk3.cell t0.2.1 H.s3.2,hk3.cell t0.2.2.1 hbs,hk3.cell t0.2.2.2 hbs⟩;obtain⟨es,cl,c,es',cl',hm3,hO3,hput,hM3⟩:=HPM.out w3 x hk3)
  | fail)
 have hx2:w.heap.size<=x:=Nat.le_trans hs1 hx3;have hxf:∀j,q.foot L j->j≠x:=fun j hj e=>by have:=H.lt j hj;omega
 have hxl:x ∉ q.s::L:=fun hm=>hxf x (.inr (.inr (.inr (.inr hm)))) rfl;have hxL:x ∉ L:=fun hm=>hxl (List.mem_cons_of_mem _ hm);have KS:=Kp.setBlock (S:=only q.m) w3 q.m (.map es' cl') rfl;have K4:Kp (fun j=>j=q.c\/j=q.m\/j∈q.s::L) w (setBlock w3 q.m (.map es' cl')):=((K2.mono (fun j _ e=>.inl e)).then ((Kp.drew none' W2).nThen hk3 |>.mono (fun j _ e=>.inr (.inr e)))).then (KS.mono (fun j _ e=>.inr (.inl e)));have hne:∀j,q.p.mem j\/j=q.g->¬(j=q.c\/j=q.m\/j∈q.s::L):=fun j hj e=>by
  have:=H.apart j hj;rcases e with e|e|e
  ·exact this.1 e
  ·exact this.2.1 e
  ·exact this.2.2 e
 have hRP:=H.rest K4 hne;have C4:=((C2.kept (Kp.drew none' W2) (fun h=>h)).kept hk3 H.s3.2).kept KS H.s3.1;have hxm:q.m ∉ q.s::x::L:=fun hm=>by
  simp only[List.mem_cons]at hm;rcases hm with e|e|e
  ·exact H.s4 (by rw[e];exact List.mem_cons_self)
  ·exact hxf _ (.inr (.inr (.inr (.inl rfl)))) e
  ·exact H.s4 (List.mem_cons_of_mem _ e)
 have more:∀j,q.foot L j->j∈q.s::x::L->j∈q.s::L:=fun j hj hm=>by
  simp only[List.mem_cons]at hm |-;rcases hm with e|e|e
  ·exact .inl e
  ·exact absurd e (hxf j hj)
  ·exact .inr e
 have R4:=hr3.kept KS (fun y hy e=>hxm (by rw[show y=q.m from e]at hy;exact hy));have hb4:(setBlock w3 q.m (.map es' cl')).heap[q.m]?=some (.map es' cl'):=(MapKept.heap_set hm3).1;have M4:=Mc.put hb4 hM3 hO3 hn hxL;have hmp:=O8 (N:=N) (n:=(k:Int)) hxL;have A4:Ca (setBlock w3 q.m (.map es' cl')) q D Q M cm (x::L) (updF' N x (k:Int)) (updF' T x X) h (mi+1):=by
  refine⟨hRP.1,H.st,hRP.2,C4,⟨ah3,be3,R4⟩,M4,by rw[hmp];exact List.nodup_cons.2 ⟨hn,H.nd⟩,fun y hy=>?_,fun j hj=>⟨(H.s1 j hj).1,(H.s1 j hj).2.1,fun hm=>(H.s1 j hj).2.2 (more j (.inl hj) hm)⟩,
   ⟨H.s2.1,H.s2.2.1,fun hm=>H.s2.2.2 (more _ (.inr (.inl rfl)) hm)⟩,⟨H.s3.1,fun hm=>H.s3.2 (more _ (.inr (.inr (.inl rfl))) hm)⟩,hxm,H.n2,H.hQ,H.sm⟩
  by_cases e:y=x
  ·subst e;exact⟨k,hk,by simp[updF'],by simp[updF',HX.out]⟩
  ·rcases List.mem_cons.1 hy with e'|hy'
   ·exact absurd e' e
   ·obtain⟨k',a1,a2,a3⟩:=H.da y hy';exact⟨k',a1,by simp[updF',e,a2],by simp[updF',e,a3]⟩
 have hlen:es'.size=L.length+1:=by
  obtain⟨es2,cl2,c2,q1,q2,q3⟩:=A4.mc;rw[hb4]at q1;cases q1
  have:=q3.size q2 A4.nd;simpa using this
 have hfoot:∀j,q.foot (x::L) j->q.foot L j\/w.heap.size<=j:=fun j hj=>by
  rcases hj with e|e|e|e|e
  ·exact .inl (.inl e)
  ·exact .inl (.inr (.inl e))
  ·exact .inl (.inr (.inr (.inl e)))
  ·exact .inl (.inr (.inr (.inr (.inl e))))
  ·simp only[List.mem_cons]at e;rcases e with e|e|e
   ·exact .inl (.inr (.inr (.inr (.inr (by rw[e];exact List.mem_cons_self)))))
   ·exact .inr (by rw[e];exact hx2)
   ·exact .inl (.inr (.inr (.inr (.inr (List.mem_cons_of_mem _ e)))))
 have HFT:=hide hfoot;have HK4:=hide K4;have HMP:=hide hmp;have hru:=Ok (w:=(setBlock w3 q.m (.map es' cl')).drew) (ty:=3) underlying109 (m:=q.m) hb4;rw[hlen]at hru;obtain⟨W4,H4⟩:∃W4,Hid (setBlock w3 q.m (.map es' cl')=W4):=⟨_,rfl⟩;rw[H4.out]at A4 hru HK4 |-;have A5:=A4.keptN (Kp.drew none' W4);have e1:=A4.cc.c1;have e3:=A4.cc.c3;clear hfoot K4 hmp KS R4 hb4 M4 hRP C4 hM3 hO3 hput kS HPM hlen hpu t0 T3;have HK5:Hid (Kp (q.foot L) w W4.drew):=(HK4.out.mono (fun j _ e=>by
  rcases e with e|e|e
  ·exact .inr (.inr (.inl e))
  ·exact .inr (.inr (.inr (.inl e)))
  ·exact .inr (.inr (.inr (.inr e))))).thenN (Kp.drew _ _)
 go_wp2;by_cases hsz:q.sz<L.length+1
 ·have hsi:(q.sz:Int)<((L.length+1:Nat):Int):=by omega
  obtain⟨L2,y,hL2⟩:∃L2 y,x::L=L2++[y]:=⟨(x::L).dropLast,(x::L).getLast (by simp),(List.dropLast_concat_getLast (by simp)).symm⟩;have HL2:=hide hL2;have A6:=A5;rw[hL2]at A6;have hdr:=GP A6;clear hL2 A6;go_region;all_goals go_wp2_with (first
   | (go_at_call 121;refine hdr.mono ?_;rintro e w7 ⟨rfl,A7,hk7⟩)
   | fail)
  all_goals first|go_end0|((try simp only[Exit.inBlock,Exit.then]);refine bodyPost_ret (results_none rfl _ _ _) rfl ?_)
  all_goals (
   have hmem:∀z,z∈L2->z∈x::L:=fun z hz=>by rw[HL2.out];exact List.mem_append.2 (.inl hz)
   have hl2:L2.length=q.sz:=by
    have:=congrArg List.length HL2.out;simp at this;omega
   refine⟨rfl,L2,_,_,A7,?_,HK5.out.trans hk7 (fun _ _ e=>e) (fun j hj e=>?_),fun j hj=>HFT.out j ?_⟩
   ·rw[<-HMP.out,HL2.out,List.map_append,List.take_append_of_le_length (by rw[List.length_map];omega),List.take_of_length_le (by rw[List.length_map];omega)]
   ·rw[<-HL2.out]at e;rcases HFT.out j e with e|e
    ·exact e
    ·omega
   ·rcases hj with e|e|e|e|e
    ·exact .inl e
    ·exact .inr (.inl e)
    ·exact .inr (.inr (.inl e))
    ·exact .inr (.inr (.inr (.inl e)))
    ·refine .inr (.inr (.inr (.inr ?_)));rcases List.mem_cons.1 e with e|e
     ·rw[e];exact List.mem_cons_self
     ·exact List.mem_cons_of_mem _ (hmem j e))
 ·have hsi:¬(q.sz:Int)<((L.length+1:Nat):Int):=by omega
  go_region;all_goals go_wp2
  all_goals first|go_end0|((try simp only[Exit.inBlock,Exit.then]);refine bodyPost_ret (results_none rfl _ _ _) rfl ?_)
  all_goals (
   have e4:(x::L).map (updF' N x (k:Int))=((k:Int)::L.map N).take q.sz:=by rw[HMP.out,List.take_of_length_le (by rw[List.length_cons,List.length_map];omega)]
   first
    | exact⟨rfl,x::L,_,_,A5,e4,HK5.out,HFT.out⟩
    | exact⟨rfl,x::L,_,⟨_,A5⟩,e4,HK5.out,HFT.out⟩)
set_option maxRecDepth 100000 in
theorem Mf(g n:Nat)(z:Int)(w:World)(h1:w.cell? ⟨g,1,none⟩=some (.int .i64 n))(hz:¬(0<=z/\z<(n:Int))) :
  Calls prog 82 #[.pointer (some ⟨g,0,none⟩),.int .i64 z] w fun e w'=>e=.returned (.tuple #[.string ⟨#[]⟩,.int .i64 7])/\w'=w:=by
 have hB:hasB n z=false:=by
  cases h:hasB n z with
  | false=>rfl
  | true=>simp[hasB]at h;exact absurd (by omega) hz
 go_enter func82,ntmps82;go_wp2_with (first
  | (go_at_call 107;refine(I4 _ _ _ _ h1).mono ?_;rintro e w' ⟨rfl,rfl⟩;rw[hB])
  | fail)
 go_ret2;exact⟨rfl,rfl⟩
theorem KG(w:World):(zeroValue 103).run prog w=.ok (.pointer none) w:=Tryz.zeroValue103 w
def Cas(w:World)(q:Cq)(F:Nat->Prop)(D:Dv)(Q:Nat->ByteArray)(M cm:Int)(K:List Int)(h mi:Int):Prop :=
 ∃L N T,Ca w q D Q M cm L N T h mi/\L.map N=K/\K.length<=q.sz/\∀k,q.foot L k->F k
theorem Cas.kept{w w':World}{q:Cq}{F S:Nat->Prop}{D:Dv}{Q:Nat->ByteArray}{M cm:Int}{K:List Int}{h mi:Int}(H:Cas w q F D Q M cm K h mi)(hk:Kp S w w')(hS:∀k,k<w.heap.size->F k->¬S k):Cas w' q F D Q M cm K h mi:=by
 obtain⟨L,N,T,h1,h2,h3,h4⟩:=H;exact⟨L,N,T,h1.kept hk (fun k hk=>hS k (h1.lt k hk) (h4 k hk)),h2,h3,h4⟩
theorem Cas.keptN{w w':World}{q:Cq}{F:Nat->Prop}{D:Dv}{Q:Nat->ByteArray}{M cm:Int}{K:List Int}{h mi:Int}(H:Cas w q F D Q M cm K h mi)(hk:Kp none' w w'):Cas w' q F D Q M cm K h mi:=H.kept hk (fun _ _ _ h=>h)
theorem Cas.mono{w:World}{q:Cq}{F G:Nat->Prop}{D:Dv}{Q:Nat->ByteArray}{M cm:Int}{K:List Int}{h mi:Int}(H:Cas w q F D Q M cm K h mi)(hF:∀k,k<w.heap.size->F k->G k):Cas w q G D Q M cm K h mi:=by
 obtain⟨L,N,T,h1,h2,h3,h4⟩:=H;exact⟨L,N,T,h1,h2,h3,fun k hk=>hF k (h1.lt k hk) (h4 k hk)⟩
theorem IU{p r:List Int}{z:Int}(h:(p++z::r).Nodup):(p++z::r).erase z=p++r:=by
 have hz:z ∉ p:=fun hm=>by
  rw[List.nodup_append]at h;exact h.2.2 z hm z List.mem_cons_self rfl
 rw[List.erase_append_right _ hz];simp
set_option maxRecDepth 100000 in
theorem LL{w:World}{q:Cq}{F:Nat->Prop}{D:Dv}{Q:Nat->ByteArray}{M cm:Int}{K:List Int}{h mi:Int}(H:Cas w q F D Q M cm K h mi)(h0:0<=h)(h1:h<=1000000000)(z:Int)(hz:z∈K) :
  Calls prog 43 #[.pointer (some ⟨q.c,0,none⟩),.int .i64 z] w fun e w'=>(0<=z/\z<(q.n:Int))/\e=.returned (.tuple #[.string (Q z.toNat),.int .i64 0])/\Cas w' q F D Q M cm (use q.sz K z) (h+1) mi/\Kp F w w':=by
 obtain⟨L,N,T,HA,rfl,hl,hF⟩:=H;obtain⟨x,hx,rfl⟩:=List.mem_map.1 hz;obtain⟨p,r,rfl⟩:=List.append_of_mem hx;obtain⟨k,hk,hNk,hTk⟩:=HA.da x hx;obtain⟨es,cl,c,hm,hM,hO⟩:=HA.mc;have hcx:=hO.someOf hx;have hlk:=El (t:=109) (e:=103) underlying109 KG hm hM (N x) true;rw[hcx]at hlk;have hop:=C7 q.c q.g w HA.cc.c0;have hhi:=OZ HA h0 h1;have c3:=HA.cc.c3;have hnd:=HA.nd;rw[List.map_append,List.map_cons]at hnd;have hu:use q.sz ((p++x::r).map N) (N x)=(x::(p++r)).map N:=by
  unfold use;rw[if_pos hz,List.map_append,List.map_cons,IU hnd,List.map_cons,List.map_append]
 have HU:=hide hu;have hle:((x::(p++r)).map N).length<=q.sz:=by
  have:=hl;simp only[List.length_map,List.length_append,List.length_cons]at this |-;omega
 have hT:T x=Q (N x).toNat:=by rw[hTk,hNk];rfl
 have hzr:0<=N x/\N x<(q.n:Int):=by rw[hNk];omega
 have HZ:=hide hzr;have HLE:=hide hle;clear hu hle hnd hzr hNk hTk;obtain⟨Y,HY⟩:∃Y,Hid (T x=Y):=⟨_,rfl⟩;rw[HY.out]at hhi hT;obtain⟨z,HZZ⟩:∃z,Hid (N x=z):=⟨_,rfl⟩;rw[HZZ.out]at hlk HU HZ hT |-;rw[<-hT];clear hT;go_enter func43,ntmps43;go_wp2_with (first
  | (go_at_call 79;refine hop.mono ?_;rintro e w' ⟨rfl,rfl⟩)
  | (go_at_call 81;refine hhi.mono ?_;rintro e w2 ⟨rfl,A2,hk2⟩)
  | fail)
 go_ret2;refine⟨HZ.out,rfl,⟨_,N,T,A2,by rw[HU.out],by rw[HU.out];exact HLE.out,fun j hj=>hF j ?_⟩,hk2.mono (fun j _ hj=>hF j hj)⟩;rcases hj with e|e|e|e|e
 ·exact .inl e
 ·exact .inr (.inl e)
 ·exact .inr (.inr (.inl e))
 ·exact .inr (.inr (.inr (.inl e)))
 ·refine .inr (.inr (.inr (.inr ?_)));simp only[List.mem_cons,List.mem_append]at e |-;rcases e with e|e|e|e
  ·exact .inl e
  ·exact .inr (.inr (.inl e))
  ·exact .inr (.inl e)
  ·exact .inr (.inr (.inr e))
set_option maxRecDepth 100000 in
theorem JO{w:World}{q:Cq}{F:Nat->Prop}{D:Dv}{Q:Nat->ByteArray}{M cm:Int}{K:List Int}{h mi:Int}(H:Cas w q F D Q M cm K h mi)(h0:0<=mi)(h1:mi<=1000000000)(k:Nat)(hk:k<q.n)(hz:(k:Int) ∉ K) :
  Calls prog 43 #[.pointer (some ⟨q.c,0,none⟩),.int .i64 (k:Int)] w fun e w'=>e=.returned (.tuple #[.string (Q k),.int .i64 0])/\Cas w' q (fun j=>F j\/w.heap.size<=j) D Q M cm (use q.sz K (k:Int)) h (mi+1)/\Kp F w w':=by
 obtain⟨L,N,T,HA,rfl,hl,hF⟩:=H;obtain⟨es,cl,c,hm,hM,hO⟩:=HA.mc;have hcx:=hO.noneOf hz;have hlk:=El (t:=109) (e:=103) underlying109 KG hm hM (k:Int) true;rw[hcx]at hlk;have hop:=C7 q.c q.g w HA.cc.c0;have c3:=HA.cc.c3;have c0:=HA.cc.c0;have hrd:=Mo HA.hR HA.n2 HA.hQ HA.hP hk;have hmi:∀W:World,Kp none' w W->_:=fun W hW=>NU (HA.keptN hW) (by simpa using hl) k hk hz h0 h1;have HMI:=hide hmi
 have HU:Hid (use q.sz (L.map N) (k:Int)=((k:Int)::L.map N).take q.sz):=by show _=_;unfold use;rw[if_neg hz]
 obtain⟨X,HX⟩:∃X,Hid (Q k=X):=⟨_,rfl⟩;rw[HX.out]at hrd HMI |-;clear hmi;go_enter func43,ntmps43;go_wp2_with (first
  | (go_at_call 79;refine hop.mono ?_;rintro e w' ⟨rfl,rfl⟩)
  | (go_at_call 82;refine hrd.mono ?_;rintro e w2 ⟨rfl,hk2⟩)
  | (go_at_call 83;refine(HMI.out w2 hk2).mono ?_;rintro e w3 ⟨rfl,L3,N3,T3,A3,hL3,hk3,hf3⟩)
  | fail)
 go_ret2;refine⟨rfl,⟨L3,N3,T3,A3,by rw[HU.out];exact hL3,by rw[HU.out,List.length_take];omega,fun j hj=>?_⟩,hk2.trans hk3 (fun _ _ h=>h.elim) (fun j _ hj=>hF j hj)⟩;rcases hf3 j hj with e|e
 ·exact .inl (hF j e)
 ·exact .inr (Nat.le_trans hk2.size e)
set_option maxRecDepth 100000 in
theorem LK{w:World}{q:Cq}{F:Nat->Prop}{D:Dv}{Q:Nat->ByteArray}{M cm:Int}{K:List Int}{h mi:Int}(H:Cas w q F D Q M cm K h mi)(z:Int)(hz:¬(0<=z/\z<(q.n:Int))) :
  Calls prog 43 #[.pointer (some ⟨q.c,0,none⟩),.int .i64 z] w fun e w'=>e=.returned (.tuple #[.string ⟨#[]⟩,.int .i64 7])/\w'=w:=by
 obtain⟨L,N,T,HA,rfl,hl,hF⟩:=H;obtain⟨es,cl,c,hm,hM,hO⟩:=HA.mc;have hzn:z ∉ L.map N:=fun hmem=>by
  obtain⟨x,hx,rfl⟩:=List.mem_map.1 hmem;obtain⟨k,hk,hNk,_⟩:=HA.da x hx;exact hz (by rw[hNk];omega)
 have hcx:=hO.noneOf hzn;have hlk:=El (t:=109) (e:=103) underlying109 KG hm hM z true;rw[hcx]at hlk;have hop:=C7 q.c q.g w HA.cc.c0;have c3:=HA.cc.c3;have c0:=HA.cc.c0;have hrd:=Mf q.g q.n z w HA.hP.c1 hz;clear hz;go_enter func43,ntmps43;go_wp2_with (first
  | (go_at_call 79;refine hop.mono ?_;rintro e w' ⟨rfl,rfl⟩)
  | (go_at_call 82;refine hrd.mono ?_;rintro e w' ⟨rfl,rfl⟩)
  | fail)
 go_ret2;exact⟨rfl,rfl⟩
set_option maxRecDepth 100000 in
theorem JN{w:World}{q:Cq}{F:Nat->Prop}{D:Dv}{Q:Nat->ByteArray}{M cm:Int}{K:List Int}{h mi:Int}(H:Cas w q F D Q M cm K h mi):Calls prog 42 #[.pointer (some ⟨q.c,0,none⟩)] w fun e w'=>e=.returned (.int .i64 (q.n:Int))/\w'=w:=by
 obtain⟨L,N,T,HA,rfl,hl,hF⟩:=H;have hop:=C7 q.c q.g w HA.cc.c0;have c0:=HA.cc.c0;have hsi:=Gv q.g (q.n:Int) w HA.hP.c1;go_enter func42,ntmps42;go_wp2_with (first
  | (go_at_call 79;refine hop.mono ?_;rintro e w' ⟨rfl,rfl⟩)
  | (go_at_call 80;refine hsi.mono ?_;rintro e w' ⟨rfl,rfl⟩)
  | fail)
 go_ret;exact⟨rfl,rfl⟩
def szN(z:Int):Nat:=(min (max z 0) 64).toNat
set_option maxRecDepth 100000 in
theorem Ir{w:World}{p:Dp}{D:Dv}{n g:Nat}{Q:Nat->ByteArray}{M cm:Int}(z:Int)(hR:Rest w p D n Q M)(st:D.st=false)(hP:Pag w g p n cm (.slice none 0 0) [])(hn:n<=160)(hQ:∀p,(Q p).size=256) :
  Calls prog 20 #[.pointer (some ⟨g,0,none⟩),.int .i64 z] w fun e w'=>∃q:Cq,e=.returned (.pointer (some ⟨q.c,0,none⟩))/\q.n=n/\q.sz=szN z/\q.p=p/\q.g=g/\Cas w' q (fun k=>p.mem k\/k=g\/w.heap.size<=k) D Q M cm [] 0 0/\Kp none' w w':=by
 have hne:=IS w;have HSZ:Hid (min (max z 0) 64=(szN z:Int)):=by show _=_;unfold szN;omega
 have hcm:∀W:World,Kp none' w W->Calls prog 45 #[.pointer (some ⟨g,0,none⟩)] W fun e w'=>e=.returned (.int .i64 cm)/\w'=W:=fun W hW=>DY g cm W (hW.cell hP.c2 (fun h=>h));have HCM:=hide hcm;clear hcm;have hmm:=@run_makeMap prog;have hum:=underlying109;go_enter func20,ntmps20;go_wp2_with (first
  | (go_at_call 44;refine hne.mono ?_;rintro e w1 ⟨s,rfl,hs1,hr1,hk1⟩)
  | (go_at_call 45;refine(HCM.out _ (hk1.then (Kp.alloc none' w1 _))).mono ?_;rintro e w' ⟨rfl,rfl⟩)
  | fail)
 go_ret;rw[HSZ.out];have k2:=Kp.alloc none' w1 (.map #[] 0);have hm2:(w1.alloc (.map #[] 0)).heap[w1.heap.size]?=some (.map #[] 0):=heap_alloc_new w1 _;have s2:(w1.alloc (.map #[] 0)).heap.size=w1.heap.size+1:=by simp
 obtain⟨W2,H2⟩:∃W2,Hid (w1.alloc (.map #[] 0)=W2):=⟨_,rfl⟩;rw[H2.out]at k2 hm2 s2 |-;have cell:=Am W2 #[.pointer (some ⟨g,0,none⟩),.int .i64 (szN z:Int),.pointer (some ⟨s,0,none⟩),.map (some w1.heap.size),.int .i64 0,.int .i64 0,.int .i64 cm] 111;have froz:=Cy W2 #[.pointer (some ⟨g,0,none⟩),.int .i64 (szN z:Int),.pointer (some ⟨s,0,none⟩),.map (some w1.heap.size),.int .i64 0,.int .i64 0,.int .i64 cm] 111
 have k3:=Kp.alloc none' W2 (.cells #[.pointer (some ⟨g,0,none⟩),.int .i64 (szN z:Int),.pointer (some ⟨s,0,none⟩),.map (some w1.heap.size),.int .i64 0,.int .i64 0,.int .i64 cm] 111);obtain⟨W3,H3⟩:∃W3,Hid (W2.alloc (.cells #[.pointer (some ⟨g,0,none⟩),.int .i64 (szN z:Int),.pointer (some ⟨s,0,none⟩),.map (some w1.heap.size),.int .i64 0,.int .i64 0,.int .i64 cm] 111)=W3):=⟨_,rfl⟩;rw[H3.out]at k3 cell froz |-;rw[s2]at cell froz;have kw:=(hk1.then k2).then k3;have k23:=k2.then k3
 have hs:=(hr1.rm s (by simp)).lt;have hpm:=hR.hd.lt;have hg:=hP.lt;have hsz:=hk1.size;have hR3:=hR.keptN kw;have hP3:=hP.keptN kw;have hr3:=hr1.kept k23 (fun _ _ h=>h);have hm3:W3.heap[w1.heap.size]?=some (.map #[] 0):=by rw[k3.block w1.heap.size (by omega) (fun h=>h)];exact hm2
 refine⟨⟨w1.heap.size+1,g,s,w1.heap.size,p,n,szN z⟩,rfl,rfl,rfl,rfl,rfl,⟨[],fun _=>0,fun _=>⟨#[]⟩,⟨hR3,st,hP3,⟨cell 0 _ rfl,cell 1 _ rfl,cell 2 _ rfl,cell 3 _ rfl,cell 4 _ rfl,cell 5 _ rfl,cell 6 _ rfl,froz⟩,⟨_,_,hr3⟩,⟨#[],0,fun _=>none,hm3,Mi.nil 0,fun z v=>by simp⟩,by simp,by simp,?_,?_,?_,?_,hn,hQ,?_⟩,rfl,Nat.zero_le _,?_⟩,kw⟩
 ·intro k hk;have:=hpm k hk;refine⟨?_,?_,?_⟩
  ·show k≠w1.heap.size+1;omega
  ·show k≠w1.heap.size;omega
  ·show k ∉ [s];simp;omega
 ·refine⟨?_,?_,?_⟩
  ·show g≠w1.heap.size+1;omega
  ·show g≠w1.heap.size;omega
  ·show g ∉ [s];simp;omega
 ·refine⟨?_,?_⟩
  ·show w1.heap.size+1≠w1.heap.size;omega
  ·show w1.heap.size+1 ∉ [s];simp;omega
 ·show w1.heap.size ∉ [s];simp;omega
 ·show szN z<=64;unfold szN;omega
 ·intro k hk;rcases hk with e|e|e|e|e
  ·exact .inl e
  ·exact .inr (.inl e)
  ·have e':k=w1.heap.size+1:=e;exact .inr (.inr (by omega))
  ·have e':k=w1.heap.size:=e;exact .inr (.inr (by omega))
  ·have e':k=s:=by simpa using e
   exact .inr (.inr (by omega))
structure St where
 K:List Int
 h:Nat
 m:Nat
def inR(n:Nat)(z:Int):Bool:=decide (0<=z/\z<(n:Int))
theorem EO{n:Nat}{z:Int}:inR n z=true↔0<=z/\z<(n:Int):=by simp[inR]
def St.use(sz n:Nat)(s:St)(z:Int):St:=if inR n z then (if z∈s.K then ⟨Go.Proofs.YtgcgacjhkhjhmaaGreatDoor.use sz s.K z,s.h+1,s.m⟩ else ⟨Go.Proofs.YtgcgacjhkhjhmaaGreatDoor.use sz s.K z,s.h,s.m+1⟩) else s
theorem St.sum{sz n:Nat}(s:St)(z:Int):(s.use sz n z).h+(s.use sz n z).m=s.h+s.m+(if inR n z then 1 else 0):=by
 unfold St.use;by_cases h:inR n z=true
 ·rw[if_pos h,if_pos h];split<;>(dsimp only;omega)
 ·rw[if_neg h,if_neg h];omega
def rdCS(n:Nat)(Q:Nat->ByteArray)(z:Int):ByteArray:=if inR n z then Q z.toNat else ⟨#[]⟩
def rdCE(n:Nat)(z:Int):Int:=if inR n z then 0 else 7
def Cst(w:World)(q:Cq)(F:Nat->Prop)(D:Dv)(Q:Nat->ByteArray)(M cm:Int)(s:St):Prop:=Cas w q F D Q M cm s.K (s.h:Int) (s.m:Int)
theorem LJ{w:World}{q:Cq}{F:Nat->Prop}{D:Dv}{Q:Nat->ByteArray}{M cm:Int}{s:St}(H:Cst w q F D Q M cm s)(hb:s.h+s.m<=1000000000)(z:Int) :
  Calls prog 43 #[.pointer (some ⟨q.c,0,none⟩),.int .i64 z] w fun e w'=>e=.returned (.tuple #[.string (rdCS q.n Q z),.int .i64 (rdCE q.n z)])/\Cst w' q (fun j=>F j\/w.heap.size<=j) D Q M cm (s.use q.sz q.n z)/\Kp F w w':=by
 by_cases hz:inR q.n z=true
 ·have hz':=EO.1 hz;unfold rdCS rdCE St.use;rw[if_pos hz,if_pos hz,if_pos hz];by_cases hk:z∈s.K
  ·rw[if_pos hk];refine(LL H (by omega) (by omega) z hk).mono ?_;rintro e w' ⟨_,rfl,h1,h2⟩;refine⟨rfl,?_,h2⟩;exact Cas.mono h1 (fun k _ h=>.inl h)
  ·rw[if_neg hk];obtain⟨k,rfl⟩:∃k:Nat,z=(k:Int):=⟨z.toNat,by omega⟩;refine(JO H (by omega) (by omega) k (by omega) hk).mono ?_;rintro e w' ⟨rfl,h1,h2⟩;exact⟨rfl,h1,h2⟩
 ·unfold rdCS rdCE St.use;rw[if_neg hz,if_neg hz,if_neg hz];refine(LK H z (fun h=>hz (EO.2 h))).mono ?_;rintro e w' ⟨rfl,rfl⟩;exact⟨rfl,Cas.mono H (fun k _ h=>.inl h),Kp.refl _ _⟩
end Go.Proofs.YtgcgacjhkhjhmaaGreatDoor
namespace Go.Proofs.YtgcgacjhkhjhmaaGreatDoor
def fjoin:(d:Nat)->Fo d->Fo d->ByteArray->Fo d
 | 0,x,y,_=>List.append (α:=Pr) x y
 | _+1,x,y,k=>(x.1++[k]++y.1,x.2++y.2)
theorem Ni:∀(d:Nat) (x y:Fo d) (k:ByteArray),fnd d (fjoin d x y k)=(fnd d x).join (fnd d y) k
 | 0,x,y,k=>rfl
 | d+1,x,y,k=>by
  show (⟨false,[],x.1++[k]++y.1,(x.2++y.2).map Prod.fst⟩:Nd)=_
  rw[List.map_append]
  rfl
theorem E9:∀(d:Nat) (x y:Fo d) (k lo hi:ByteArray),fOk d x lo k->fOk d y k hi->okKey k=true->lessB lo k=true->(hi.size=0\/lessB k hi=true)->fOk d (fjoin d x y k) lo hi
 | 0,x,y,k,lo,hi,hx,hy,hk,h1,h2=>by
  have hs:=AN hk
  have hU:leU k hi:=by rcases h2 with e|e;exact .inl e;exact .inr ⟨by omega,AU e⟩
  have hx':Bw x lo k:=hx
  have hy':Bw y k hi:=hy
  show Bw (List.append (α:=Pr) x y) lo hi
  refine⟨fun p hp=>?_,List.pairwise_append.2 ⟨hx'.2,hy'.2,fun p hp q hq=>?_⟩⟩
  ·rcases List.mem_append.1 hp with e|e
   ·have:=hx'.1 p e
    exact⟨this.1,this.2.1,CL this.2.2 (AD lo) hU⟩
   ·have:=hy'.1 p e
    exact⟨this.1,this.2.1,CL this.2.2 (AU h1) (DM hi)⟩
  ·have a:=AR.1 (hx'.1 p hp).2.2
   have b:=AR.1 (hy'.1 q hq).2.2
   rcases a.2 with e|e
   ·omega
   ·exact Da e b.1
 | d+1,x,y,k,lo,hi,hx,hy,hk,h1,h2=>by
  refine⟨fun j hj=>?_,?_⟩
  ·rcases List.mem_append.1 hj with e|e
   ·rcases List.mem_append.1 e with e|e
    ·exact hx.1 j e
    ·rw[List.mem_singleton.1 e];exact hk
   ·exact hy.1 j e
  ·show AH (tOk d) (x.1++[k]++y.1) (x.2++y.2) lo hi
   rw[List.append_assoc]
   exact DJ _ _ _ _ _ _ _ hx.2 hy.2
theorem Gh:∀(d:Nat) (x y:Fo d) (k:ByteArray),fpgs d (fjoin d x y k)=fpgs d x++fpgs d y
 | 0,x,y,k=>rfl
 | d+1,x,y,k=>List.flatMap_append
theorem Gi:∀(d:Nat) (x y:Fo d) (k:ByteArray),fprs d (fjoin d x y k)=fprs d x++fprs d y
 | 0,x,y,k=>rfl
 | d+1,x,y,k=>List.flatMap_append
theorem IA{V:Int->Option Nd}:∀(d:Nat) (x y:Fo d) (k:ByteArray),fIn V d x->fIn V d y->fIn V d (fjoin d x y k)
 | 0,x,y,k,_,_=>trivial
 | d+1,x,y,k,hx,hy=>fun t ht=>by
  rcases List.mem_append.1 ht with e|e
  ·exact hx t e
  ·exact hy t e
theorem Nh:∀(d:Nat) (x y:Fo d) (k:ByteArray),fne d x\/fne d y->fne d (fjoin d x y k)
 | 0,x,y,k,h=>fun e=>by
  have e':=List.append_eq_nil_iff.1 (show (List.append (α:=Pr) x y)=[] from e)
  rcases h with h|h
  ·exact h e'.1
  ·exact h e'.2
 | d+1,x,y,k,h=>fun e=>by simp[fjoin]at e
theorem JS(d:Nat)(x y:Fo (d+1))(k:ByteArray):(fnd (d+1) (fjoin (d+1) x y k)).size+4=(fnd (d+1) x).size+(fnd (d+1) y).size+kSize k:=by
 show 4+((x.1++[k]++y.1).map kSize).sum+4=4+(x.1.map kSize).sum+(4+(y.1.map kSize).sum)+kSize k;simp only[List.map_append,List.sum_append,List.map_cons,List.map_nil,List.sum_cons,List.sum_nil];omega
theorem Kr{α:Type}(f:α->Nat)(M:Nat):∀(l:List α),(∀x∈l,f x<=M)->(l.map f).sum<=M*l.length
 | [],_=>by simp
 | x::l,h=>by
  have:=Kr f M l (fun y hy=>h y (List.mem_cons_of_mem _ hy))
  have h0:=h x List.mem_cons_self
  simp only[List.map_cons,List.sum_cons,List.length_cons]
  rw[Nat.mul_add]
  omega
theorem NN{ps:List Pr}{lo hi:ByteArray}(h:Bw ps lo hi):(ps.map Pr.size).sum<=74*ps.length:=Kr _ _ _ (fun p hp=>by
 have:=h.1 p hp
 have:=AN this.1
 show 2+p.k.size+p.v.size<=74
 omega)
theorem NC{ks:List ByteArray}(h:∀k∈ks,okKey k=true):(ks.map kSize).sum<=35*ks.length:=Kr _ _ _ (fun k hk=>by
 have:=AN (h k hk)
 show 3+k.size<=35
 omega)
theorem OW(f:List Pr)(lo hi:ByteArray)(h:fOk 0 f lo hi)(hs:256<(fnd 0 f).size)(hs':(fnd 0 f).size<=330) :
  ∃f1 f2:List Pr,(fnd 0 f).fst=fnd 0 f1/\(fnd 0 f).snd=fnd 0 f2/\fOk 0 f1 lo (fnd 0 f).mid/\fOk 0 f2 (fnd 0 f).mid hi/\fne 0 f1/\fne 0 f2/\(fnd 0 f1).size<=256/\(fnd 0 f2).size<=256/\okKey (fnd 0 f).mid=true/\fpgs 0 f=fpgs 0 f1++fpgs 0 f2/\fprs 0 f=fprs 0 f1++fprs 0 f2/\∀V,fIn V 0 f->fIn V 0 f1/\fIn V 0 f2:=by
 have hr:=AG 0 f lo hi h;have hf:Bw f lo hi:=h;have hsum:=NN hf;have esz:(fnd 0 f).size=2+(List.map Pr.size f).sum:=rfl;have h2:2<=(fnd 0 f).ps.length:=by show 2<=List.length f;omega
 obtain⟨_,_,_,_,q1,q2,q3⟩:=Ko hr rfl h2;obtain⟨a1,a2,_,_⟩:=GK (n:=fnd 0 f) rfl h2;have hp:(fnd 0 f).parts=true:=by unfold Nd.parts;rw[show (fnd 0 f).leaf=true from rfl,if_pos rfl];exact decide_eq_true h2
 obtain⟨i,hi'⟩:∃i,i=(fnd 0 f).at_:=⟨_,rfl⟩;have e1:(fnd 0 f).fst=⟨true,List.take i f,[],[]⟩:=by unfold Nd.fst;rw[hp,if_pos rfl,show (fnd 0 f).leaf=true from rfl,if_pos rfl,<-hi'];rfl
 have e2:(fnd 0 f).snd=⟨true,List.drop i f,[],[]⟩:=by unfold Nd.snd;rw[hp,if_pos rfl,show (fnd 0 f).leaf=true from rfl,if_pos rfl,<-hi'];rfl
 have e3:(fnd 0 f).mid=(List.getD f i ⟨⟨#[]⟩,⟨#[]⟩⟩).k:=by unfold Nd.mid;rw[hp,if_pos rfl,show (fnd 0 f).leaf=true from rfl,if_pos rfl,<-hi'];rfl
 rw[<-hi']at a1 a2;have hil:i<List.length f:=a2;have hmid:okKey (fnd 0 f).mid=true/\inB (fnd 0 f).mid lo hi=true:=by
  rw[e3,List.getD_eq_getElem?_getD,List.getElem?_eq_getElem hil];have:=hf.1 _ (List.getElem_mem hil);exact⟨this.1,this.2.2⟩
 rw[e1]at q1;rw[e2]at q2;have hm:=AR.1 hmid.2;refine⟨List.take i f,List.drop i f,e1,e2,?_,?_,?_,?_,?_,?_,hmid.1,rfl,?_,fun V _=>⟨trivial,trivial⟩⟩
 ·refine⟨fun p hp=>?_,List.Pairwise.sublist (List.take_sublist _ _) hf.2⟩;have:=hf.1 p (List.mem_of_mem_take hp);exact⟨this.1,this.2.1,AR.2 ⟨(AR.1 this.2.2).1,.inr (q1 p hp)⟩⟩
 ·refine⟨fun p hp=>?_,List.Pairwise.sublist (List.drop_sublist _ _) hf.2⟩;have:=hf.1 p (List.mem_of_mem_drop hp);exact⟨this.1,this.2.1,AR.2 ⟨q2 p hp,(AR.1 this.2.2).2⟩⟩
 ·intro e;have:(List.take i f).length=0:=by rw[show List.take i f=[] from e];rfl
  rw[List.length_take]at this;omega
 ·intro e;have:(List.drop i f).length=0:=by rw[show List.drop i f=[] from e];rfl
  rw[List.length_drop]at this;omega
 ·have:=(q3 hs').1;rw[e1]at this;exact this
 ·have:=(q3 hs').2;rw[e2]at this;exact this
 ·exact(List.take_append_drop i f).symm
theorem JT:∀(d:Nat) (f:Fo d) (lo hi:ByteArray),fOk d f lo hi->256<(fnd d f).size->(fnd d f).size<=330 ->
  ∃f1 f2,(fnd d f).fst=fnd d f1/\(fnd d f).snd=fnd d f2/\fOk d f1 lo (fnd d f).mid/\fOk d f2 (fnd d f).mid hi/\fne d f1/\fne d f2/\(fnd d f1).size<=256/\(fnd d f2).size<=256/\okKey (fnd d f).mid=true/\fpgs d f=fpgs d f1++fpgs d f2/\fprs d f=fprs d f1++fprs d f2/\∀V,fIn V d f->fIn V d f1/\fIn V d f2
 | 0,f,lo,hi,h,hs,hs'=>OW f lo hi h hs hs'
 | d+1,f,lo,hi,h,hs,hs'=>by
  have hr:=AG (d+1) f lo hi h
  have hlen:=Bb _ _ _ _ h.2
  have hsum:=NC h.1
  have esz:(fnd (d+1) f).size=4+(f.1.map kSize).sum:=rfl
  have h3:3<=(fnd (d+1) f).ks.length:=by show 3<=f.1.length;omega
  obtain⟨_,_,_,_,_,_,q3⟩:=Jf hr rfl h3
  obtain⟨a1,a2,_,_⟩:=EY (n:=fnd (d+1) f) rfl h3
  have hkd:(fnd (d+1) f).kd.length=(fnd (d+1) f).ks.length+1:=by show (f.2.map Prod.fst).length=_;rw[List.length_map];exact hlen
  have hp:(fnd (d+1) f).parts=true:=by unfold Nd.parts;rw[show (fnd (d+1) f).leaf=false from rfl,if_neg (by simp)];exact decide_eq_true ⟨h3,hkd⟩
  obtain⟨i,hi'⟩:∃i,i=(fnd (d+1) f).at_:=⟨_,rfl⟩
  have e1:(fnd (d+1) f).fst=fnd (d+1) (f.1.take i,f.2.take (i+1)):=by
   unfold Nd.fst;rw[hp,if_pos rfl,show (fnd (d+1) f).leaf=false from rfl,if_neg (by simp),<-hi'];show (⟨false,[],f.1.take i,(f.2.map Prod.fst).take (i+1)⟩:Nd)=⟨false,[],f.1.take i,(f.2.take (i+1)).map Prod.fst⟩;rw[List.map_take]
  have e2:(fnd (d+1) f).snd=fnd (d+1) (f.1.drop (i+1),f.2.drop (i+1)):=by
   unfold Nd.snd;rw[hp,if_pos rfl,show (fnd (d+1) f).leaf=false from rfl,if_neg (by simp),<-hi'];show (⟨false,[],f.1.drop (i+1),(f.2.map Prod.fst).drop (i+1)⟩:Nd)=⟨false,[],f.1.drop (i+1),(f.2.drop (i+1)).map Prod.fst⟩;rw[List.map_drop]
  rw[<-hi']at a1 a2;have hil:i+1<f.1.length:=a2;have hil':i<f.1.length:=by omega
  have e3:(fnd (d+1) f).mid=f.1.getD i hi:=by
   unfold Nd.mid;rw[hp,if_pos rfl,show (fnd (d+1) f).leaf=false from rfl,if_neg (by simp),<-hi'];show f.1.getD i _=_;rw[List.getD_eq_getElem?_getD,List.getD_eq_getElem?_getD,List.getElem?_eq_getElem hil'];rfl
  have hg:(f.2.take (i+1)).length=i+1:=by rw[List.length_take];omega
  obtain⟨k1,k2,_⟩:=Cv (f.2.take (i+1)) f.1 (f.2.drop (i+1)) lo hi (fun e=>by rw[e]at hg;simp at hg) (fun e=>by have:=List.length_drop (l:=f.2) (i:=i+1);rw[e]at this;simp at this;omega) (by rw[List.take_append_drop];exact h.2);rw[hg]at k1 k2;rw[show i+1 - 1=i by omega]at k1 k2;rw[<-e3]at k1 k2;refine⟨(f.1.take i,f.2.take (i+1)),(f.1.drop (i+1),f.2.drop (i+1)),e1,e2,⟨fun k hk=>h.1 k (List.mem_of_mem_take hk),k1⟩,⟨fun k hk=>h.1 k (List.mem_of_mem_drop hk),k2⟩,?_,?_,?_,?_,?_,?_,?_,?_⟩
  ·intro e;have:(f.1.take i).length=0:=by rw[show f.1.take i=[] from e];rfl
   rw[List.length_take]at this;omega
  ·intro e;have:(f.1.drop (i+1)).length=0:=by rw[show f.1.drop (i+1)=[] from e];rfl
   rw[List.length_drop]at this;omega
  ·have:=(q3 hs').1;rw[e1]at this;exact this
  ·have:=(q3 hs').2;rw[e2]at this;exact this
  ·rw[e3,List.getD_eq_getElem?_getD,List.getElem?_eq_getElem hil'];exact h.1 _ (List.getElem_mem hil')
  ·show f.2.flatMap _=(f.2.take (i+1)).flatMap _++(f.2.drop (i+1)).flatMap _;rw[<-List.flatMap_append,List.take_append_drop]
  ·show f.2.flatMap _=(f.2.take (i+1)).flatMap _++(f.2.drop (i+1)).flatMap _;rw[<-List.flatMap_append,List.take_append_drop]
  ·exact fun V hV=>⟨fun t ht=>hV t (List.mem_of_mem_take ht),fun t ht=>hV t (List.mem_of_mem_drop ht)⟩
def vS(S:Sw)(z:Int):Option Nd:=if ndE S z=0 then some (ndOf S z) else none
def Cg.at(C:Cg)(z:Int):Option Nd:=match C.ws.find? (fun p=>p.1==z) with
 | some p=>some p.2
 | none=>vS C.S z
theorem CF{S S':Sw}{z:Int}(h:S'.read z=S.read z):vS S' z=vS S z:=by
 unfold vS ndE ndOf;rw[h]
theorem at_new{C:Cg}{z:Int}{n:Nd}(h:∀p∈C.ws,p.1≠z):(C.write z n).at z=some n:=by
 unfold Cg.at Cg.write;have:C.ws.find? (fun p=>p.1==z)=none:=List.find?_eq_none.2 (fun p hp=>by simpa using h p hp);simp[List.find?_append,this]
theorem BE{C:Cg}{z y:Int}{n:Nd}(h:y≠z):(C.write z n).at y=C.at y:=by
 unfold Cg.at Cg.write;have:(((z,n):Int × Nd).1==y)=false:=by simpa using fun e:z=y=>h e.symm
 simp only[List.find?_append,List.find?_cons,List.find?_nil,this];cases C.ws.find? (fun p=>p.1==y)<;>rfl
theorem Ih{C:Cg}{y:Int}(h:∀p∈C.ws,p.1≠y):C.at y=vS C.S y:=by
 unfold Cg.at;rw[List.find?_eq_none.2 (fun p hp=>by simpa using h p hp)]
structure Ac (S:Sw) (n:Nat) (U:Nat->Bool) (C:Cg):Prop where
 ht:Tk C.S n (fun i=>U i||C.tk.contains (i:Int))
 fr:S.From C.S
 tk:∀z∈C.tk,0<z/\z<(n:Int)/\U z.toNat=false
 nd:C.tk.Nodup
 rd:∀i,0<i->i<n->U i=true->C.S.now.getD i ⟨#[]⟩=S.now.getD i ⟨#[]⟩
theorem Tk.read{S:Sw}{n:Nat}{U:Nat->Bool}(h:Tk S n U){z:Int}(h0:0<z)(h1:z<(n:Int))(hu:U z.toNat=true):S.read z=(S.now.getD z.toNat ⟨#[]⟩,0):=by
 have ht:AW S.now z=true:=by
  unfold AW;rw[h.len,h.us z.toNat (by omega) (by omega),hu];simp[h0,h1]
 unfold Sw.read;rw[h.ov,ht];rfl
theorem Ac.read{S:Sw}{n:Nat}{U:Nat->Bool}{C:Cg}(h:Ac S n U C)(hS:Tk S n U){z:Int}(h0:0<z)(h1:z<(n:Int))(hu:U z.toNat=true):C.S.read z=S.read z:=by
 rw[h.ht.read h0 h1 (by rw[hu];rfl),hS.read h0 h1 hu,h.rd z.toNat (by omega) (by omega) hu]
theorem Gp(l:List ByteArray):∀k n m,lowest l k n=some m->n<=m/\m<n+k/\isU l m=false/\∀i,n<=i->i<m->isU l i=true:=by
 intro k;induction k with
 | zero=>intro n m h;cases h
 | succ k ih =>
  intro n m h;unfold lowest at h;cases hu:isU l n with
  | true =>
   rw[hu,if_pos rfl]at h;obtain⟨h1,h2,h3,h4⟩:=ih (n+1) m h;refine⟨by omega,by omega,h3,fun i hi him=>?_⟩;by_cases e:i=n
   ·rw[e];exact hu
   ·exact h4 i (by omega) him
  | false =>
   rw[hu,if_neg (by simp)]at h;have:=Option.some.inj h;exact⟨by omega,by omega,by rw[<-this];exact hu,fun i hi him=>by omega⟩
theorem getD_set_ne{α:Type}(l:List α)(i j:Nat)(x d:α)(h:i≠j):(l.set i x).getD j d=l.getD j d:=by
 rw[List.getD_eq_getElem?_getD,List.getD_eq_getElem?_getD,List.getElem?_set,if_neg h]
theorem Ac.takeS{S:Sw}{n:Nat}{U:Nat->Bool}{C:Cg}(h:Ac S n U C) :
  (C.S.takeE.2=0/\(0<C.S.takeE.1/\C.S.takeE.1<(n:Int)/\U C.S.takeE.1.toNat=false)/\C.S.takeE.1 ∉ C.tk/\Ac S n U { C with S:=C.S.take (fillB 0),tk:=C.tk++[C.S.takeE.1] }/\∀i,0<i->i<n->(U i||C.tk.contains (i:Int))=true->(C.S.take (fillB 0)).now.getD i ⟨#[]⟩=C.S.now.getD i ⟨#[]⟩)
  \/ (C.S.takeE.2=8/\C.S.take (fillB 0)=C.S):=by
 have ho:=h.ht.ov;cases hf:C.S.free with
 | none =>
  right;refine⟨by unfold Sw.takeE;rw[ho,hf];rfl,by unfold Sw.take;rw[ho,hf];rfl⟩
 | some m =>
  left;have hl:=hf;unfold Sw.free at hl;rw[h.ht.len]at hl;obtain⟨l1,l2,l3,l4⟩:=Gp _ _ _ _ hl;have hmn:m<n:=by have:=h.ht.l0;omega
  have hU:(U m||C.tk.contains (m:Int))=false:=by rw[<-h.ht.us m (by omega) hmn];exact l3
  obtain⟨t1,t2⟩:=h.ht.take m (fillB 0) (by omega) hmn hU (fun i hi him=>by rw[<-h.ht.us i hi (by omega)];exact l4 i (by omega) him) (A8 0);have hU':=Bool.or_eq_false_iff.1 hU;have hrd:∀i,0<i->i<n->(U i||C.tk.contains (i:Int))=true->(C.S.take (fillB 0)).now.getD i ⟨#[]⟩=C.S.now.getD i ⟨#[]⟩:=by
   intro i hi hin hu;have hne:m≠i:=fun e=>by rw[<-e,hU]at hu;cases hu
   have e:C.S.take (fillB 0)={ C.S with now:=(turnL C.S.now m).set m (fillB 0) }:=by unfold Sw.take;rw[if_neg (by rw[ho];simp),hf]
   rw[e];show ((turnL C.S.now m).set m (fillB 0)).getD i _=_;rw[getD_set_ne _ _ _ _ _ hne];unfold turnL;rw[getD_set_ne _ _ _ _ _ (by omega)]
  have e0:(C.S.takeE.1).toNat=m:=by rw[t1];simp
  refine⟨by rw[t1],⟨by rw[t1];show (0:Int)<(m:Int);omega,by rw[t1];show (m:Int)<(n:Int);omega,by rw[e0];exact hU'.1⟩,?_,⟨?_,?_,?_,?_,?_⟩,hrd⟩
  ·rw[t1];intro hm;have:C.tk.contains (m:Int)=true:=List.contains_iff_mem.2 hm;rw[hU'.2]at this;cases this
  ·refine t2.congr (fun i hi hin=>?_);show (i==m||(U i||C.tk.contains (i:Int)))=(U i||(C.tk++[C.S.takeE.1]).contains (i:Int));rw[t1];have:(C.tk++[(m:Int)]).contains (i:Int)=(C.tk.contains (i:Int)||(i==m)):=by
    by_cases e:i=m
    ·subst e;simp
    ·have e':¬((i:Int)=(m:Int)):=by omega
     simp[e,e']
   show (i==m||(U i||C.tk.contains (i:Int)))=(U i||(C.tk++[(m:Int)]).contains (i:Int));rw[this];cases (i==m)<;>cases U i<;>cases C.tk.contains (i:Int)<;>rfl
  ·exact h.fr.trans (LT _ _)
  ·intro z hz;rcases List.mem_append.1 hz with e|e
   ·exact h.tk z e
   ·rw[List.mem_singleton.1 e,t1];exact⟨by show (0:Int)<(m:Int);omega,by show (m:Int)<(n:Int);omega,by show U ((m:Int).toNat)=false;simpa using hU'.1⟩
  ·show (C.tk++[C.S.takeE.1]).Nodup;refine List.nodup_append.2 ⟨h.nd,List.pairwise_singleton _ _,fun a ha b hb e=>?_⟩;rw[List.mem_singleton.1 hb,t1]at e;have e':a=(m:Int):=e;have:C.tk.contains (m:Int)=true:=List.contains_iff_mem.2 (by rw[<-e'];exact ha);rw[hU'.2]at this;cases this
  ·intro i hi hin hu;show (C.S.take (fillB 0)).now.getD i _=_;rw[hrd i hi hin (by rw[hu];rfl)];exact h.rd i hi hin hu
theorem Ac.take{S:Sw}{n:Nat}{U:Nat->Bool}{C:Cg}(h:Ac S n U C) :
  Ac S n U C.take/\C.take.ws=C.ws/\C.take.k=C.k /\
  (C.takeZ.2=8\/(C.takeZ.2=0/\(∀x,[C.takeZ.1].count x+C.take.sp.count x+C.tk.count x=C.sp.count x+C.take.tk.count x)/\∀y:Int,0<y->y<(n:Int)->(U y.toNat||C.tk.contains y)=true->C.take.at y=C.at y)):=by
 unfold Cg.take Cg.takeZ;by_cases h0:C.sp.length=0
 ·rw[if_pos h0,if_pos h0];have hsp:C.sp=[]:=List.length_eq_zero_iff.1 h0;rcases h.takeS with ⟨t1,t2,t3,t4,t5⟩|⟨t1,t2⟩
  ·rw[t1,if_pos rfl];refine⟨t4,rfl,rfl,.inr ⟨rfl,fun x=>?_,fun y h1 h2 hu=>?_⟩⟩
   ·show _+C.sp.count x+_=_+(C.tk++[C.S.takeE.1]).count x;rw[List.count_append];omega
   ·unfold Cg.at;show (match C.ws.find? _ with|some p=>some p.2|none=>vS (C.S.take (fillB 0)) y)=_;have e:vS (C.S.take (fillB 0)) y=vS C.S y:=CF (by
     have hcast:((y.toNat:Nat):Int)=y:=by omega
     have a1:=t4.ht.read h1 h2 (by
      show (U y.toNat||(C.tk++[C.S.takeE.1]).contains ((y.toNat:Nat):Int))=true;rw[hcast];rcases Bool.or_eq_true_iff.1 hu with e|e
      ·rw[e];rfl
      ·rw[List.contains_iff_mem.2 (List.mem_append_left _ (List.contains_iff_mem.1 e))];simp)
     have a2:=h.ht.read h1 h2 (by show (U y.toNat||C.tk.contains ((y.toNat:Nat):Int))=true;rw[hcast];exact hu);rw[a2,show (C.S.take (fillB 0)).read y=_ from a1];show ((C.S.take (fillB 0)).now.getD y.toNat _,_)=_;rw[t5 y.toNat (by omega) (by omega) (by rw[hcast];exact hu)])
    rw[e]
  ·rw[t1,if_neg (by decide)];refine⟨?_,rfl,rfl,.inl rfl⟩;rw[t2];exact h
 ·rw[if_neg h0,if_neg h0];refine⟨⟨h.ht,h.fr,h.tk,h.nd,h.rd⟩,rfl,rfl,.inr ⟨rfl,fun x=>?_,fun y _ _ _=>rfl⟩⟩;show [C.sp.getD (C.sp.length - 1) 0].count x+(C.sp.take (C.sp.length - 1)).count x+C.tk.count x=C.sp.count x+C.tk.count x;have e:C.sp=C.sp.take (C.sp.length - 1)++[C.sp.getD (C.sp.length - 1) 0]:=by
   have hlt:C.sp.length - 1<C.sp.length:=by omega
   have:=List.take_succ_eq_append_getElem hlt;rw[show C.sp.length - 1+1=C.sp.length by omega,List.take_length]at this;rw[List.getD_eq_getElem?_getD,List.getElem?_eq_getElem hlt];exact this
  have e2:C.sp.count x=(C.sp.take (C.sp.length - 1)).count x+[C.sp.getD (C.sp.length - 1) 0].count x:=by
   rw[<-List.count_append,<-e]
  omega
def tpg(d:Nat)(t:Int × Fo d):List Int:=t.1::fpgs d t.2
def OgOk(n:Nat)(U:Nat->Bool)(og:List Int):Prop:=(∀x,og.count x<=1)/\∀z∈og,0<z/\z<(n:Int)/\U z.toNat=true
structure Pst (S:Sw) (n:Nat) (U:Nat->Bool) (C:Cg) (og ng wg:List Int):Prop where
 ac:Ac S n U C
 pm:∀x,ng.count x+C.sp.count x=og.count x+C.tk.count x
 wn:(C.ws.map Prod.fst).Nodup
 we:∀p∈C.ws,p.2.writeE=0
 wi:∀p∈C.ws,p.1∈wg
theorem Ae{l:List Int}{x:Int}:x∈l↔0<l.count x:=List.count_pos_iff.symm
theorem Ac.tkU{S:Sw}{n:Nat}{U:Nat->Bool}{C:Cg}(h:Ac S n U C){x:Int}(hu:U x.toNat=true):C.tk.count x=0:=by
 rcases Nat.eq_zero_or_pos (C.tk.count x)with e|e
 ·exact e
 ·have:=(h.tk x (Ae.2 e)).2.2;rw[hu]at this;cases this
theorem Ac.tk1{S:Sw}{n:Nat}{U:Nat->Bool}{C:Cg}(h:Ac S n U C)(x:Int):C.tk.count x<=1:=List.nodup_iff_count.1 h.nd x
theorem Pst.one{S:Sw}{n:Nat}{U:Nat->Bool}{C:Cg}{og ng wg:List Int}(h:Pst S n U C og ng wg)(ho:OgOk n U og)(x:Int):ng.count x+C.sp.count x<=1:=by
 rw[h.pm x];have h1:=ho.1 x;have h2:=h.ac.tk1 x;rcases Nat.eq_zero_or_pos (og.count x)with e|e
 ·omega
 ·have:=h.ac.tkU (ho.2 x (Ae.2 e)).2.2;omega
theorem Pst.no{S:Sw}{n:Nat}{U:Nat->Bool}{C:Cg}{og ng wg:List Int}(h:Pst S n U C og ng wg){y:Int}(hu:U y.toNat=true)(hy:og.count y=0):ng.count y=0/\C.sp.count y=0:=by
 have h1:=h.pm y;have h2:=h.ac.tkU hu;omega
theorem Pst.out{S:Sw}{n:Nat}{U:Nat->Bool}{C:Cg}{og ng wg:List Int}(h:Pst S n U C og ng wg)(hS:Tk S n U)(hw:∀x∈wg,x∈ng){y:Int}(h0:0<y)(h1:y<(n:Int))(hu:U y.toNat=true)(hy:og.count y=0):C.at y=vS S y:=by
 rw[Ih (fun p hp e=>?_),CF (h.ac.read hS h0 h1 hu)];have:=Ae.1 (hw _ (h.wi p hp));rw[e,(h.no hu hy).1]at this;omega
theorem BT(d:Nat)(ks:List ByteArray)(ts:List (Int × Fo d)):fpgs (d+1) (ks,ts)=ts.flatMap (tpg d):=rfl
theorem D3{S:Sw}{n:Nat}{U:Nat->Bool}(hS:Tk S n U)(d:Nat)(z:Int)(ks:List ByteArray)(A G B:List (Int × Fo d))(lo hi:ByteArray)(hf:fOk (d+1) (ks,A++G++B) lo hi)(hin:fIn (vS S) (d+1) (ks,A++G++B))(ho:OgOk n U (z::fpgs (d+1) (ks,A++G++B)))
  (C:Cg) (G':List (Int × Fo d)) (kg':List ByteArray) (hG:G≠[]) (hk:AH (tOk d) kg' G' (lowB ks lo A.length) (ks.getD (A.length+G.length - 1) hi)) (hkk:∀k∈kg',okKey k=true) (hP:Pst S n U C (G.flatMap (tpg d)) (G'.flatMap (tpg d)) (G'.flatMap (tpg d))) (hT:∀t∈G',tIn C.at d t) :
  fOk (d+1) (ks.take A.length++kg'++ks.drop (A.length+G.length - 1),A++G'++B) lo hi /\
  fIn C.at (d+1) (ks.take A.length++kg'++ks.drop (A.length+G.length - 1),A++G'++B) /\
  Pst S n U C (z::fpgs (d+1) (ks,A++G++B)) (z::fpgs (d+1) (ks.take A.length++kg'++ks.drop (A.length+G.length - 1),A++G'++B)) (fpgs (d+1) (ks.take A.length++kg'++ks.drop (A.length+G.length - 1),A++G'++B))/\C.at z=vS S z:=by
 have hcut:=DK A G B ks lo hi hG hf.2;have e1:fpgs (d+1) (ks,A++G++B)=A.flatMap (tpg d)++G.flatMap (tpg d)++B.flatMap (tpg d):=by rw[BT,List.flatMap_append,List.flatMap_append]
 have e2:∀kk,fpgs (d+1) (kk,A++G'++B)=A.flatMap (tpg d)++G'.flatMap (tpg d)++B.flatMap (tpg d):=fun kk=>by rw[BT,List.flatMap_append,List.flatMap_append]
 rw[e1]at ho |-;rw[e2];have hout:∀y,y=z\/y∈A.flatMap (tpg d)\/y∈B.flatMap (tpg d)->C.at y=vS S y:=by
  intro y hy;have hm:y∈z::(A.flatMap (tpg d)++G.flatMap (tpg d)++B.flatMap (tpg d)):=by
   rcases hy with e|e|e
   ·rw[e];exact List.mem_cons_self
   ·exact List.mem_cons_of_mem _ (List.mem_append_left _ (List.mem_append_left _ e))
   ·exact List.mem_cons_of_mem _ (List.mem_append_right _ e)
  have hu:=ho.2 y hm;have h1:=ho.1 y;simp only[List.count_cons,List.count_append]at h1;refine hP.out hS (fun _ h=>h) hu.1 hu.2.1 hu.2.2 ?_;rcases hy with e|e|e
  ·subst e;simp only[beq_self_eq_true,if_pos]at h1;omega
  ·have:=Ae.1 e;omega
  ·have:=Ae.1 e;omega
 refine⟨⟨fun k hk'=>?_,hcut.2 kg' G' hk⟩,fun t ht=>?_,⟨hP.ac,fun x=>?_,hP.wn,hP.we,fun p hp=>List.mem_append_left _ (List.mem_append_right _ (hP.wi p hp))⟩,hout z (.inl rfl)⟩
 ·rcases List.mem_append.1 hk' with e|e
  ·rcases List.mem_append.1 e with e|e
   ·exact hf.1 k (List.mem_of_mem_take e)
   ·exact hkk k e
  ·exact hf.1 k (List.mem_of_mem_drop e)
 ·have ht':t∈A++G'++B:=ht;rcases List.mem_append.1 ht' with e|e
  ·rcases List.mem_append.1 e with e|e
   ·exact BL d t (hin t (List.mem_append_left _ (List.mem_append_left _ e))) (fun y hy=>hout y (.inr (.inl (List.mem_flatMap.2 ⟨t,e,hy⟩))))
   ·exact hT t e
  ·exact BL d t (hin t (List.mem_append_right _ e)) (fun y hy=>hout y (.inr (.inr (List.mem_flatMap.2 ⟨t,e,hy⟩))))
 ·have:=hP.pm x;simp only[List.count_cons,List.count_append];omega
theorem Ac.same{S:Sw}{n:Nat}{U:Nat->Bool}{C C':Cg}(h:Ac S n U C)(hS:C'.S=C.S)(ht:C'.tk=C.tk):Ac S n U C':=⟨by rw[hS,ht];exact h.ht,by rw[hS];exact h.fr,by rw[ht];exact h.tk,by rw[ht];exact h.nd,by rw[hS];exact h.rd⟩
theorem AQ{n:Nd}(h:n.right=true):n.writeE=0↔n.size<=256:=by
 unfold Nd.writeE;rw[h,if_pos rfl];split
 ·constructor
  ·intro e;cases e
  ·intro e;omega
 ·exact⟨fun _=>by omega,fun _=>rfl⟩
theorem IV{l:List Int}{z:Int}(h:l.Nodup)(hz:z ∉ l):(l++[z]).Nodup:=List.nodup_append.2 ⟨h,List.pairwise_singleton _ _,fun a ha b hb e=>hz (by rw[List.mem_singleton.1 hb]at e;rw[<-e];exact ha)⟩
theorem Pst.write{S:Sw}{n:Nat}{U:Nat->Bool}{C:Cg}{og ng wg wg':List Int}(h:Pst S n U C og ng wg)(z:Int)(x:Nd)(hz:z ∉ C.ws.map Prod.fst)(hx:x.writeE=0)(hw:∀y∈wg,y∈wg')(hz':z∈wg'):Pst S n U (C.write z x) og ng wg':=by
 refine⟨h.ac.same rfl rfl,h.pm,?_,fun p hp=>?_,fun p hp=>?_⟩
 ·show ((C.ws++[(z,x)]).map Prod.fst).Nodup;rw[List.map_append];exact IV h.wn hz
 ·rcases List.mem_append.1 hp with e|e
  ·exact h.we p e
  ·rw[List.mem_singleton.1 e];exact hx
 ·rcases List.mem_append.1 hp with e|e
  ·exact hw _ (h.wi p e)
  ·rw[List.mem_singleton.1 e];exact hz'
theorem Pst.ws_no{S:Sw}{n:Nat}{U:Nat->Bool}{C:Cg}{og ng wg:List Int}(h:Pst S n U C og ng wg){z:Int}(hz:wg.count z=0):z ∉ C.ws.map Prod.fst:=fun hm=>by
 obtain⟨p,hp,rfl⟩:=List.mem_map.1 hm
 have:=Ae.1 (h.wi p hp)
 omega
theorem CY{C:Cg}{z:Int}(h:z ∉ C.ws.map Prod.fst):∀p∈C.ws,p.1≠z:=fun p hp e=>h (List.mem_map.2 ⟨p,hp,e⟩)
theorem IR{S:Sw}{z:Int}(h:ndE S z=0):(ndOf S z).right=true:=by
 unfold ndE at h;by_cases h1:(S.read z).2=0
 ·rw[if_pos h1]at h;cases hr:readN (S.read z).1 with
  | none=>rw[hr]at h;simp at h
  | some n =>
   unfold ndOf;rw[if_pos h1,hr];have hw:=(Bk hr).1;unfold Nd.writeE at hw;cases hn:n.right with
   | true=>exact hn
   | false=>rw[hn]at hw;simp at hw
 ·rw[if_neg h1]at h;exact absurd h h1
theorem Jq{S:Sw}{k k':Nat}{z lv:Int}(h:trE S k z lv=0)(hk:k'<=k):trE S k' z lv=0:=by
 obtain⟨h1,h2,h3,_,_⟩:=Dx h;unfold trE;rw[if_pos h3,if_neg (by omega)]
theorem B0{rec:Int->ByteArray->ByteArray->Lo->Bool × Lo}{ks:List ByteArray}{fr up:ByteArray}{d:Int}{r:List Int}{i:Nat}{L:Lo}(h:(AF rec ks fr up (d::r) i L).1=true) :
  ∃a b,(rec d a b L).1=true/\AF rec ks fr up (d::r) i L=AF rec ks fr up r (i+1) (rec d a b L).2:=by
 have e:∃a b,AF rec ks fr up (d::r) i L=if (rec d a b L).1 then AF rec ks fr up r (i+1) (rec d a b L).2 else rec d a b L:=⟨_,_,rfl⟩
 obtain⟨a,b,e⟩:=e;rw[e]at h;cases hh:(rec d a b L).1 with
 | true=>exact⟨a,b,hh,by rw[e,if_pos hh]⟩
 | false=>rw[if_neg (by rw[hh];simp),hh]at h;cases h
theorem CU{rec:Int->ByteArray->ByteArray->Lo->Bool × Lo}(hr:∀d a b L,(rec d a b L).1=true->L.k<=(rec d a b L).2.k)(ks:List ByteArray)(fr up:ByteArray) :
  ∀(ds:List Int) (i:Nat) (L:Lo),(AF rec ks fr up ds i L).1=true->L.k<=(AF rec ks fr up ds i L).2.k
 | [],i,L,_=>Nat.le_refl _
 | d::r,i,L,h=>by
  obtain⟨a,b,h1,e⟩:=B0 h
  rw[e]at h |-
  exact Nat.le_trans (hr _ _ _ _ h1) (CU hr ks fr up r (i+1) _ h)
theorem CT{rec:Int->ByteArray->ByteArray->Lo->Bool × Lo}(hr:∀d a b L,(rec d a b L).1=true->L.k<=(rec d a b L).2.k)(ks:List ByteArray)(fr up:ByteArray) :
  ∀(c:Nat) (ds:List Int) (i:Nat) (L:Lo),(AF rec ks fr up ds i L).1=true->∃L',L.k<=L'.k/\AF rec ks fr up (ds.drop c) (i+c) L'=AF rec ks fr up ds i L
 | 0,ds,i,L,_=>⟨L,Nat.le_refl _,rfl⟩
 | c+1,[],i,L,_=>⟨L,Nat.le_refl _,rfl⟩
 | c+1,d::r,i,L,h=>by
  obtain⟨a,b,h1,e⟩:=B0 h
  rw[e]at h |-
  obtain⟨L',h2,h3⟩:=CT hr ks fr up c r (i+1) _ h
  refine⟨L',Nat.le_trans (hr _ _ _ _ h1) h2,?_⟩
  rw[List.drop_succ_cons,show i+(c+1)=i+1+c by omega,h3]
theorem IZ{rec:Int->ByteArray->ByteArray->Lo->Bool × Lo}{ro:Int->Lo->Int × Lo}(hr:∀d a b L,(rec d a b L).1=true->L.k<=(rec d a b L).2.k)
  (hro:∀d a b L M,(rec d a b L).1=true->M.k<=L.k->(ro d M).1=0/\(ro d M).2.k<=(rec d a b L).2.k) (ks:List ByteArray) (fr up up':ByteArray) :
  ∀(ds:List Int) (i:Nat) (L M:Lo),(AF rec ks fr up ds i L).1=true->M.k<=L.k->(overK ro ks up' ds i M).1=0/\(overK ro ks up' ds i M).2.k<=(AF rec ks fr up ds i L).2.k
 | [],i,L,M,_,hM=>⟨rfl,hM⟩
 | d::r,i,L,M,h,hM=>by
  have hm:=CU hr ks fr up (d::r) i L h
  unfold overK
  by_cases hs:0<i/\inB (ks.getD (i - 1) ⟨#[]⟩) ⟨#[]⟩ up'=false
  ·rw[if_pos hs]
   exact⟨rfl,Nat.le_trans hM hm⟩
  ·rw[if_neg hs]
   obtain⟨a,b,h1,e⟩:=B0 h
   rw[e]at h |-
   obtain⟨e1,e2⟩:=hro _ _ _ _ M h1 hM
   rw[if_pos e1]
   exact IZ hr hro ks fr up up' r (i+1) _ _ h e2
theorem BZ(S:Sw):∀(f:Nat) (z lv:Int) (a b:ByteArray) (L:Lo),(Aq S f z lv a b L).1=true->L.k<=(Aq S f z lv a b L).2.k
 | 0,z,lv,a,b,L,h=>by cases h
 | f+1,z,lv,a,b,L,h=>by
  unfold Aq at h |-
  split at h
  ·rename_i h1
   rw[if_pos h1]
   split at h
   ·cases h
   ·rename_i h2
    rw[if_neg h2]
    split at h
    ·rename_i h3
     rw[if_pos h3]
     exact Nat.le_succ _
    ·rename_i h3
     rw[if_neg h3]
     split at h
     ·cases h
     ·rename_i h4
      rw[if_neg h4]
      exact Nat.le_trans (Nat.le_succ _) (CU (fun d a b M hM=>BZ S f d (lv+1) a b M hM) _ _ _ _ _ _ h)
  ·cases h
theorem IY(S:Sw)(fr up:ByteArray):∀(f:Nat) (z lv:Int) (a b:ByteArray) (L M:Lo),(Aq S f z lv a b L).1=true->M.k<=L.k->(overG S fr up f z lv M).1=0/\(overG S fr up f z lv M).2.k<=(Aq S f z lv a b L).2.k
 | 0,z,lv,a,b,L,M,h,_=>by cases h
 | f+1,z,lv,a,b,L,M,h,hM=>by
  unfold Aq at h |-
  unfold overG
  split at h
  ·rename_i h1
   rw[if_pos (Jq h1 hM),if_pos h1]
   have hmk:∀q:Lo,(q.meet z).k=q.k:=fun q=>by unfold Lo.meet;split<;>rfl
   split at h
   ·cases h
   ·rename_i h2
    rw[if_neg h2]
    split at h
    ·rename_i h3
     rw[if_pos h3]
     have hk:(ndOf S z).kd=[]:=(AI (IR (Dx h1).2.2.1) h3).2.2.1
     rw[hk,List.drop_nil]
     refine⟨rfl,?_⟩
     show (({ M with k:=M.k+1 }:Lo).meet z).k<=L.k+1
     rw[hmk]
     exact Nat.succ_le_succ hM
    ·rename_i h3
     rw[if_neg h3]
     split at h
     ·cases h
     ·rename_i h4
      rw[if_neg h4]
      obtain⟨L',hL,e⟩:=CT (fun d a b M hM=>BZ S f d (lv+1) a b M hM) (ndOf S z).ks a b (An (ndOf S z).ks fr) _ _ _ h
      rw[Nat.zero_add]at e
      rw[<-e]at h |-
      refine IZ (fun d a b M hM=>BZ S f d (lv+1) a b M hM) (fun d a b L M hd hm=>IY S fr up f d (lv+1) a b L M hd hm) _ _ _ _ _ _ _ _ h ?_
      show (({ M with k:=M.k+1 }:Lo).meet z).k<=L'.k
      rw[hmk]
      exact Nat.le_trans (Nat.succ_le_succ hM) hL
  ·cases h
theorem C6(ks:List ByteArray)(k:ByteArray):An ks k<=ks.length:=List.length_filter_le _ _
theorem Lz(S:Sw)(key:ByteArray):∀(f:Nat) (acc:List Sp) (z:Int) (k:Nat) (a b:ByteArray) (L:Lo),(Aq S f z (acc.length+1) a b L).1=true->k<=L.k->(wayG S key f acc z k).2.1=0
 | 0,acc,z,k,a,b,L,h,_=>by cases h
 | f+1,acc,z,k,a,b,L,h,hk=>by
  unfold Aq at h
  unfold wayG
  split at h
  ·rename_i h1
   rw[if_pos (Jq h1 hk)]
   split at h
   ·cases h
   ·split at h
    ·rename_i h3
     rw[if_pos h3]
    ·rename_i h3
     rw[if_neg h3]
     split at h
     ·cases h
     ·have hkd:=(At (IR (Dx h1).2.2.1) (by simpa using h3)).2.2.1
      have hc:=C6 (ndOf S z).ks key
      obtain⟨L',hL,e⟩:=CT (fun d a b M hM=>BZ S f d (((acc.length:Nat):Int)+1+1) a b M hM) (ndOf S z).ks a b (An (ndOf S z).ks key) _ _ _ h
      rw[<-e,List.drop_eq_getElem_cons (by omega)]at h
      obtain⟨a',b',h5,_⟩:=B0 h
      rw[List.getD_eq_getElem?_getD,List.getElem?_eq_getElem (by omega),Option.getD_some]
      refine Lz S key f _ _ (k+1) a' b' L' ?_ (Nat.le_trans (Nat.succ_le_succ hk) hL)
      rw[List.length_append,List.length_singleton]
      have e2:(((acc.length+1:Nat):Int)+1)=((acc.length:Nat):Int)+1+1:=by omega
      rw[e2]
      exact h5
  ·cases h
theorem Bu{S:Sw}{z:Int}(h:(AP S z).2.2=true)(key:ByteArray):(getT S z key).2.2=0:=by
 unfold getT;split
 ·rfl
 ·rename_i h0;have hs:(Aq S 41 z 1 ⟨#[]⟩ ⟨#[]⟩ ⟨0,[],[],0⟩).1=true:=by
   unfold AP sound at h;rw[if_neg h0]at h;split at h
   ·rename_i h1;exact h1
   ·cases h
  rw[if_pos (Lz S key 41 [] z 0 _ _ _ hs (Nat.le_refl _))];split<;>rfl
theorem Bl{S:Sw}{z:Int}(h:(AP S z).2.2=true)(fr up:ByteArray):scanE S z fr up=0:=by
 unfold scanE over;split
 ·rfl
 ·rename_i h0;have hs:(Aq S 41 z 1 ⟨#[]⟩ ⟨#[]⟩ ⟨0,[],[],0⟩).1=true:=by
   unfold AP sound at h;rw[if_neg h0]at h;split at h
   ·rename_i h1;exact h1
   ·cases h
  exact(IY S fr up 41 z 1 _ _ _ _ hs (Nat.le_refl _)).1
theorem Bt{S:Sw}{z:Int}{fr up:ByteArray}(h:scanE S z fr up≠0):scanL S z fr up=[]:=by
 unfold scanL;rw[if_neg h]
end Go.Proofs.YtgcgacjhkhjhmaaGreatDoor
