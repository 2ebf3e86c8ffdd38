/- Part of the proof: contracts over the turned program. -/
import Derived.Test.YtjojffepakclcaaGreatDoorX23
import Derived.Test.YtjojffepakclcaaGreatDoorX11
set_option linter.unusedVariables false
set_option maxHeartbeats 4000000
open Go.Proofs.Tryz
namespace Go.Proofs.YtjojffepakclcaaGreatDoor
open Go Go.RowKit
theorem AC{P:Program}{w:World}{ops:Array Oper}{o:Oper}{a:Act}{K:Act->World->Prop}{Q:Exit->Act->World->Prop}{E:Prop}{d:Nat}(hgd:o.guard=none)(hd:o.dst=some d)(s x:Operand)(t tx:TypeId)
  (ho:o.op=.call { callee:=.builtin .append,args:=#[s,x],argTypes:=#[t,tx] }) (v xv:Value) (hs:a.eval s=v) (hx:a.eval x=xv) {v':Value} {w':World}
  (hr:(Builtin.append_ #[t,tx] o.type #[v,xv]).run P w=.ok v' w') (h:K (a.put (some d) v') w'):if Region.wanted o (yielded ops a.tmps)=true then Oper.wp P o a w K Q else E :=
 Au hgd s x t tx ho v xv hs hx hr (by rw[hd];exact h)
set_option maxRecDepth 100000 in
theorem B3{w:World}{ops:Array Oper}{o:Oper}{a:Act}{K:Act->World->Prop}{Q:Exit->Act->World->Prop}{E:Prop}{d:Nat}(hgd:o.guard=none)(hd:o.dst=some d)(x:Operand)(ho:o.op=.buildSlice 33 1 #[(0,x)]){k v:ByteArray}(hx:a.eval x=.agg #[.string k,.string v])
  (h:∀W' g,Prs W'.heap.size W' (.slice (some ⟨g,0,none⟩) 1 1) [⟨k,v⟩]->Kp none' w W'->K (a.put (some d) (.slice (some ⟨g,0,none⟩) 1 1)) W') :
  if Region.wanted o (yielded ops a.tmps)=true then Oper.wp prog o a w K Q else E:=by
 have hw:Region.wanted o (yielded ops a.tmps)=true:=by simp[Region.wanted,hgd]
 rw[if_pos hw];have h1:=h _ w.heap.size ((Prs.one w ⟨k,v⟩ _ rfl).mono (by simp)) (Kp.alloc _ _ _);clear h;obtain⟨dst,op,type,pos,after,guard⟩:=o;dsimp only at hgd hd ho;subst hgd hd ho;unfold Oper.wp execOp;dsimp only;simp only[List.map_toArray,List.map_cons,List.map_nil,hx];go_simp;first|exact h1|(simp only[Act.put]at h1 |-;exact h1)
set_option maxRecDepth 100000 in
theorem By{w:World}{ops:Array Oper}{o:Oper}{a:Act}{K:Act->World->Prop}{Q:Exit->Act->World->Prop}{E:Prop}(hgd:o.guard=none)(hd:o.dst=none)(p x:Operand)(ho:o.op=.store 33 p x)(b:Nat)(hp:a.eval p=.pointer (some ⟨b,2,none⟩)){a1:Option Addr}{n1 c1:Nat}
  (hx:a.eval x=.slice a1 n1 c1) {r:Nat} {root:Int} {v0:Value} (hN:Pk w b r root v0)
  (h:∀W',Pk W' b r root (.slice a1 n1 c1)->Kp (only b) w W'->K a W') :
  if Region.wanted o (yielded ops a.tmps)=true then Oper.wp prog o a w K Q else E:=by
 have hw:Region.wanted o (yielded ops a.tmps)=true:=by simp[Region.wanted,hgd]
 rw[if_pos hw];have h1:=h _ (hN.set2 (.slice a1 n1 c1)) (Kp.setCell _ _ _ _ rfl);have d2:=hN.c2;have f2:=hN.fz 2;clear h;obtain⟨dst,op,type,pos,after,guard⟩:=o;dsimp only at hgd hd ho;subst hgd hd ho;unfold Oper.wp execOp;dsimp only;simp only[hp,hx];go_simp;first|exact h1|(simp only[Act.put]at h1 |-;exact h1)
set_option maxRecDepth 100000 in
theorem Oa(b r:Nat)(root:Int)(v0:Value)(l:List Pr)(k v:ByteArray)(w:World)(hb:Pk w b r root v0)(hq:Pq w b v0 l)(hk:k.size<=maxLen)(hv:v.size<=maxLen)(hp:l.length<=100000)(hA:Asc (putL l k v)) :
  Calls prog 36 #[.pointer (some ⟨b,2,none⟩),.string k,.string v] w fun e w'=>e=.returned (.tuple #[])/\∃v',Pk w' b r root v'/\Pq w' b v' (putL l k v)/\(∀g,v'.ownBlock=some g->w.heap.size<=g)/\Kp (only b) w w':=by
 have HPL:=hide (Dx b v0 l k w (hb.pz hq) hk);have hfl:=Bl l k;have hbl:=Ch l k;have hP:=hq.o.prs;obtain⟨a,c,rfl,hlc,hcm,ha⟩:=hP;have hP:Prs w.heap.size w (.slice a l.length c) l:=⟨a,c,rfl,hlc,hcm,ha⟩;clear ha;unfold maxLen at hcm;obtain⟨i,Hi⟩:∃i,Hid (findN l k=i):=⟨_,rfl⟩;obtain⟨j,Hj⟩:∃j,Hid (behind l k=j):=⟨_,rfl⟩;rw[Hi.out]at hfl HPL;rw[Hj.out]at hbl;have HPUT:Hid (putL l k v=l.take i++[⟨k,v⟩]++l.drop j):=by show _=_;unfold putL;rw[Hi.out,Hj.out]
 have HAS:Hid (Asc (l.take i++[⟨k,v⟩]++l.drop j)/\∀p∈l.take i++[⟨k,v⟩]++l.drop j,p.k.size<=maxLen/\p.v.size<=maxLen):=by
  rw[HPUT.out]at hA;refine⟨hA,fun p hp=>?_⟩;rcases List.mem_append.1 hp with hp|hp
  ·rcases List.mem_append.1 hp with hp|hp
   ·exact hq.sz p (List.mem_of_mem_take hp)
   ·rw[List.mem_singleton.1 hp];exact⟨hk,hv⟩
  ·exact hq.sz p (List.mem_of_mem_drop hp)
 clear hq hA;have hil:(i:Int)<=(l.length:Int):=by omega
 have hjl:(j:Int)<=(l.length:Int):=by omega
 have hic:(i:Int)<=(c:Int):=by omega
 have hjc:(j:Int)<=(c:Int):=by omega
 have hlc':(l.length:Int)<=(c:Int):=by omega
 have HDL:Hid ((l.drop j).length<=100000):=by show _<=_;rw[List.length_drop];omega
 have HLL:=hide hp;have HBL:=hide hb.lt;have HFJ:Hid (j=if hasN l k then i+1 else i):=by show _=_;rw[<-Hj.out,<-Hi.out];rfl
 have HJL:=hide hjl;cases ht:hasN l k with
 | false =>
  rw[ht]at HPL HFJ;have hji:i=j:=HFJ.out.symm;subst hji;go_enter func36,ntmps36;go_upto_region 4 with (first
   | (go_at_call 27;refine HPL.out.mono ?_;rintro e w1 ⟨rfl,hK1⟩)
   | fail)
  have HBK:Hid (∀W,Kp none' w1 W->Pk W b r root (.slice a l.length c)):=fun W h=>(hb.kept hK1 (fun h=>h)).kept h (fun h=>h);have HPA:Hid (∀W,Kp none' w1 W->Prs w1.heap.size W (.slice a l.length c) l):=fun W h=>((hP.keptN hK1).mono hK1.size).keptN h;have HEND:Hid (∀(W W':World) (x:Value),Kp none' w1 W->Kp (only b) W W'->OwP W w1.heap.size x (l.take i++[⟨k,v⟩]++l.drop i)->Pq W' b x (putL l k v)/\(∀g,x.ownBlock=some g->w.heap.size<=g)/\Kp (only b) w W'):=fun W W' x h1 h2 h3=>by
   have hs:=hK1.size;refine⟨?_,fun g h=>by have:=(h3.lt g h).1;omega,(hK1.thenN h1).trans h2 (fun _ _ h=>h.elim) (fun _ _ h=>h)⟩;rw[HPUT.out];exact⟨(h3.kept h2 (fun z hz hzo=>by have:=(h3.lt z hz).1;have:=HBL.out;unfold only at hzo;omega)).mono (by have:=HBL.out;omega),HAS.out.1,HAS.out.2⟩
  obtain⟨DV,HDV⟩:∃q,Hid ((if c=i then Value.slice a 0 0 else .slice (a.map (fun x=>x.add (i*2))) (l.length - i) (c - i))=q):=⟨_,rfl⟩;have HPD:Hid (∀W,Kp none' w1 W->Prs w1.heap.size W DV (l.drop i)):=fun W h=>by
   rw[<-HDV.out];by_cases hcj:c=i
   ·rw[if_pos hcj];exact(HPA.out W h).drop0 i hbl hcj
   ·rw[if_neg hcj];exact(HPA.out W h).dropM i hbl
  clear hP hb HPL HPUT HAS;refine BH 22 (fun W=>Kp none' w1 W) (by kernel_rfl) (Kp.drew _ _) (fun hHeld=>?_);refine Ab (i:=0) (d:=19) (v:=?_) [0] rfl rfl (by kernel_rfl) (by kernel_rfl) (by kernel_rfl) (by kernel_rfl) (by kernel_rfl) (fun _ _ _ h=>h) (Or.inl ⟨by rfl,?_⟩) (by assumption) ?_;rotate_left
  ·intro W hSW;try dsimp only at hSW
   go_simp;try with_reducible rfl
  try simp only[Act.put,PT,PU,PV]
  refine Ab (i:=1) (d:=20) (v:=?_) [1] rfl rfl (by kernel_rfl) (by kernel_rfl) (by kernel_rfl) (by kernel_rfl) (by kernel_rfl) (fun _ _ _ h=>h) (Or.inl ⟨by rfl,?_⟩) (by assumption) ?_;rotate_left
  ·intro W hSW;try dsimp only at hSW
   go_simp;try with_reducible rfl
  try simp only[Act.put,PT,PU,PV]
  refine Ab (i:=2) (d:=21) (v:=?_) [2] rfl rfl (by kernel_rfl) (by kernel_rfl) (by kernel_rfl) (by kernel_rfl) (by kernel_rfl) (fun _ _ _ h=>h) (Or.inl ⟨by rfl,?_⟩) (by assumption) ?_;rotate_left
  ·intro W hSW;try dsimp only at hSW
   go_simp;try with_reducible rfl
  try simp only[Act.put,PT,PU,PV]
  refine Ab (i:=3) (d:=22) (v:=?_) [3] rfl rfl (by kernel_rfl) (by kernel_rfl) (by kernel_rfl) (by kernel_rfl) (by kernel_rfl) (fun _ _ _ h=>h) (Or.inl ⟨by rfl,?_⟩) (by assumption) ?_;rotate_left
  ·intro W hSW;try dsimp only at hSW
   go_simp;try with_reducible rfl
  try simp only[Act.put,PT,PU,PV]
  refine Ab (i:=4) (d:=23) (v:=?_) [4] rfl rfl (by kernel_rfl) (by kernel_rfl) (by kernel_rfl) (by kernel_rfl) (by kernel_rfl) (fun _ _ _ h=>h) (Or.inl ⟨by rfl,?_⟩) (by assumption) ?_;rotate_left
  ·intro W hSW;try dsimp only at hSW
   have g:=(HBK.out _ hSW).c2;go_simp;try with_reducible rfl
  try simp only[Act.put,PT,PU,PV]
  refine Ab (i:=5) (d:=24) (v:=?_) [5] rfl rfl (by kernel_rfl) (by kernel_rfl) (by kernel_rfl) (by kernel_rfl) (by kernel_rfl) (fun _ _ _ h=>h) (Or.inl ⟨by rfl,?_⟩) (by assumption) ?_;rotate_left
  ·intro W hSW;try dsimp only at hSW
   go_simp;try with_reducible rfl
  try simp only[Act.put,PT,PU,PV]
  refine Ab (i:=6) (d:=25) (v:=?_) [6] rfl rfl (by kernel_rfl) (by kernel_rfl) (by kernel_rfl) (by kernel_rfl) (by kernel_rfl) (fun _ _ _ h=>h) (Or.inl ⟨by rfl,?_⟩) (by assumption) ?_;rotate_left
  ·intro W hSW;try dsimp only at hSW
   go_simp;try with_reducible rfl
  try simp only[Act.put,PT,PU,PV]
  refine Ab (i:=8) (d:=27) (v:=?_) [8] rfl rfl (by kernel_rfl) (by kernel_rfl) (by kernel_rfl) (by kernel_rfl) (by kernel_rfl) (fun _ _ _ h=>h) (Or.inl ⟨by rfl,?_⟩) (by assumption) ?_;rotate_left
  ·intro W hSW;try dsimp only at hSW
   go_simp;try with_reducible rfl
  try simp only[Act.put,PT,PU,PV]
  refine Ab (i:=9) (d:=28) (v:=?_) [9] rfl rfl (by kernel_rfl) (by kernel_rfl) (by kernel_rfl) (by kernel_rfl) (by kernel_rfl) (fun _ _ _ h=>h) (Or.inl ⟨by rfl,?_⟩) (by assumption) ?_;rotate_left
  ·intro W hSW;try dsimp only at hSW
   go_simp;try with_reducible rfl
  try simp only[Act.put,PT,PU,PV]
  refine Ab (i:=10) (d:=29) (v:=?_) [10] rfl rfl (by kernel_rfl) (by kernel_rfl) (by kernel_rfl) (by kernel_rfl) (by kernel_rfl) (fun _ _ _ h=>h) (Or.inl ⟨by rfl,?_⟩) (by assumption) ?_;rotate_left
  ·intro W hSW;try dsimp only at hSW
   go_simp;try with_reducible rfl
  try simp only[Act.put,PT,PU,PV]
  refine Ab (i:=13) (d:=32) (v:=?_) [13] rfl rfl (by kernel_rfl) (by kernel_rfl) (by kernel_rfl) (by kernel_rfl) (by kernel_rfl) (fun _ _ _ h=>h) (Or.inl ⟨by rfl,?_⟩) (by assumption) ?_;rotate_left
  ·intro W hSW;try dsimp only at hSW
   go_simp;try with_reducible rfl
  try simp only[Act.put,PT,PU,PV]
  refine Ab (i:=14) (d:=33) (v:=?_) [14] rfl rfl (by kernel_rfl) (by kernel_rfl) (by kernel_rfl) (by kernel_rfl) (by kernel_rfl) (fun _ _ _ h=>h) (Or.inl ⟨by rfl,?_⟩) (by assumption) ?_;rotate_left
  ·intro W hSW;try dsimp only at hSW
   go_simp;try with_reducible rfl
  try simp only[Act.put,PT,PU,PV]
  refine Ab (i:=15) (d:=34) (v:=?_) [15] rfl rfl (by kernel_rfl) (by kernel_rfl) (by kernel_rfl) (by kernel_rfl) (by kernel_rfl) (fun _ _ _ h=>h) (Or.inl ⟨by rfl,?_⟩) (by assumption) ?_;rotate_left
  ·intro W hSW;try dsimp only at hSW
   go_simp;try with_reducible rfl
  try simp only[Act.put,PT,PU,PV]
  refine Ab (i:=16) (d:=35) (v:=?_) [16] rfl rfl (by kernel_rfl) (by kernel_rfl) (by kernel_rfl) (by kernel_rfl) (by kernel_rfl) (fun _ _ _ h=>h) (Or.inl ⟨by rfl,?_⟩) (by assumption) ?_;rotate_left
  ·intro W hSW;try dsimp only at hSW
   have g:=(HBK.out _ hSW).c2;go_simp;try with_reducible rfl
  try simp only[Act.put,PT,PU,PV]
  refine Ab (i:=17) (d:=36) (v:=?_) [17] rfl rfl (by kernel_rfl) (by kernel_rfl) (by kernel_rfl) (by kernel_rfl) (by kernel_rfl) (fun _ _ _ h=>h) (Or.inl ⟨by rfl,?_⟩) (by assumption) ?_;rotate_left
  ·intro W hSW;try dsimp only at hSW
   go_simp;try with_reducible rfl
  try simp only[Act.put,PT,PU,PV]
  refine Ab (i:=18) (d:=37) (v:=DV) [18] rfl rfl (by kernel_rfl) (by kernel_rfl) (by kernel_rfl) (by kernel_rfl) (by kernel_rfl) (fun _ _ _ h=>h) (Or.inl ⟨by rfl,?_⟩) (by assumption) ?_
  ·intro W hSW;rw[<-HDV.out];by_cases hcj:c=i
   ·have hcj2:i=c:=hcj.symm;rw[if_pos hcj];clear hcj HDV HPD;subst hcj2;go_simp
   ·rw[if_neg hcj];go_simp
  try simp only[Act.put,PT,PU,PV]
  refine Ap (rs:=[7,11]) (by kernel_rfl) (by simp) ?_;refine AllReadyL.consS rfl (fun K hK=>?_) ?_
  ·obtain⟨v7,wx7,hq7,o7,hgr7,hv7⟩:=appP _ w1.heap.size (.slice none 0 0) (.slice a i c) [] (l.take i) (OwP.nil _ _) ((HPA.out _ hHeld).take i hfl).src hHeld.size (by have:=HLL.out;simp;omega);rw[List.nil_append]at o7;have hk7:Kp none' _ wx7:=Kp.ofGrown hgr7 (fun k hk _=>by cases hk);clear hgr7 hv7;refine AC (d:=26) (by rfl) (by rfl) (.const (.slice none 0 0)) (.tmp 25) 33 33 (by rfl) _ _ (by rfl) (by rfl) hq7 ?_;refine hK.out _ _ (hHeld.thenN hk7) (fun hHeld=>?_);clear hK K
   try simp only[Act.put,PT,PU,PV]
   clear hq7;refine Ap (rs:=[11]) (by kernel_rfl) (by simp) ?_;refine AllReadyL.consS rfl (fun K hK=>?_) ?_
   ·refine B3 (d:=30) (by rfl) (by rfl) (.tmp 29) (by rfl) (by rfl) ?_;intro wx11 g11 hone hk11;replace o7:=o7.keptN hk11;refine hK.out _ _ (hHeld.thenN hk11) (fun hHeld=>?_);clear hK K;try simp only[Act.put,PT,PU,PV]
    refine Ap (rs:=[12]) (by kernel_rfl) (by simp) ?_;refine AllReadyL.consS rfl (fun K hK=>?_) ?_
    ·obtain⟨v12,wx12,hq12,o12,hgr12,hv12⟩:=appP _ w1.heap.size v7 (.slice (some ⟨g11,0,none⟩) 1 1) (l.take i) [⟨k,v⟩] o7 hone.src hHeld.size (by have:=HLL.out;simp;omega);have hk12:Kp (fun z=>v7.ownBlock=some z) _ wx12:=Kp.ofGrown hgr12 (fun k hk _=>hk);clear hgr12 hv12;refine AC (d:=31) (by rfl) (by rfl) (.tmp 26) (.tmp 30) 33 33 (by rfl) _ _ (by rfl) (by rfl) hq12 ?_;refine hK.out _ _ (hHeld.trans hk12 (fun _ _ h=>h) (fun k hk h=>absurd hk (by have:=(o7.lt k h).1;omega))) (fun hHeld=>?_)
     clear hK K;try simp only[Act.put,PT,PU,PV]
     clear hq12 o7 hone;refine Ap (rs:=[19]) (by kernel_rfl) (by simp) ?_;refine AllReadyL.consS rfl (fun K hK=>?_) ?_
     ·obtain⟨v19,wx19,hq19,o19,hgr19,hv19⟩:=appP _ w1.heap.size v12 DV _ (l.drop i) o12 (HPD.out _ hHeld).src hHeld.size (by have:=HLL.out;simp;omega);have hk19:Kp (fun z=>v12.ownBlock=some z) _ wx19:=Kp.ofGrown hgr19 (fun k hk _=>hk);clear hgr19 hv19;refine AC (d:=38) (by rfl) (by rfl) (.tmp 31) (.tmp 37) 33 33 (by rfl) _ _ (by rfl) (by rfl) hq19 ?_;refine hK.out _ _ (hHeld.trans hk19 (fun _ _ h=>h) (fun k hk h=>absurd hk (by have:=(o12.lt k h).1;omega))) (fun hHeld=>?_);clear hK K
      try simp only[Act.put,PT,PU,PV]
      clear hq19 o12;obtain⟨a4,c4,e4,_⟩:=o19.prs;obtain⟨n4,Hn4⟩:∃m,Hid ((l.take i++[(⟨k,v⟩:Pr)]++l.drop i).length=m):=⟨_,rfl⟩;rw[Hn4.out]at e4;subst e4;refine Ab (i:=20) (d:=39) (v:=?_) [21,20] rfl rfl (by kernel_rfl) (by kernel_rfl) (by kernel_rfl) (by kernel_rfl) (by kernel_rfl) (fun _ _ _ h=>h) (Or.inl ⟨by rfl,?_⟩) (by assumption) ?_;rotate_left
      ·intro W hSW;try dsimp only at hSW
       go_simp;try with_reducible rfl
      try simp only[Act.put,PT,PU,PV]
      refine Ab (i:=21) (d:=40) (v:=?_) [21] rfl rfl (by kernel_rfl) (by kernel_rfl) (by kernel_rfl) (by kernel_rfl) (by kernel_rfl) (fun _ _ _ h=>h) (Or.inl ⟨by rfl,?_⟩) (by assumption) ?_;rotate_left
      ·intro W hSW;try dsimp only at hSW
       go_simp;try with_reducible rfl
      try simp only[Act.put,PT,PU,PV]
      refine Ap (rs:=[22]) (by kernel_rfl) (by simp) ?_;refine AllReadyL.consL rfl (fun K hK=>?_) ?_
      ·refine By (by rfl) (by rfl) (.tmp 40) (.tmp 38) (by rfl) b (by rfl) (by rfl) (HBK.out _ hHeld) ?_;intro wx22 hpk hk22;refine hK.out _ _ ?_;clear hK K;try simp only[Act.put,PT,PU,PV]
       refine B0 (by kernel_rfl) ?_ _;try go_wp2
       first|go_end0|((try simp only[Exit.inBlock,Exit.then]);refine bodyPost_ret (results_none rfl _ _ _) rfl ?_)
       exact⟨rfl,_,hpk,(HEND.out _ _ _ hHeld hk22 o19)⟩
      exact AllReadyL.nil
     exact AllReadyL.nil
    exact AllReadyL.nil
   exact AllReadyL.nil
  refine AllReadyL.consS rfl (fun K hK=>?_) ?_
  ·refine B3 (d:=30) (by rfl) (by rfl) (.tmp 29) (by rfl) (by rfl) ?_;intro wx11 g11 hone hk11;refine hK.out _ _ (hHeld.thenN hk11) (fun hHeld=>?_);clear hK K;try simp only[Act.put,PT,PU,PV]
   refine Ap (rs:=[7]) (by kernel_rfl) (by simp) ?_;refine AllReadyL.consS rfl (fun K hK=>?_) ?_
   ·obtain⟨v7,wx7,hq7,o7,hgr7,hv7⟩:=appP _ w1.heap.size (.slice none 0 0) (.slice a i c) [] (l.take i) (OwP.nil _ _) ((HPA.out _ hHeld).take i hfl).src hHeld.size (by have:=HLL.out;simp;omega);rw[List.nil_append]at o7;have hk7:Kp none' _ wx7:=Kp.ofGrown hgr7 (fun k hk _=>by cases hk);clear hgr7 hv7;replace hone:=hone.keptN hk7;refine AC (d:=26) (by rfl) (by rfl) (.const (.slice none 0 0)) (.tmp 25) 33 33 (by rfl) _ _ (by rfl) (by rfl) hq7 ?_
    refine hK.out _ _ (hHeld.thenN hk7) (fun hHeld=>?_);clear hK K;try simp only[Act.put,PT,PU,PV]
    clear hq7;refine Ap (rs:=[12]) (by kernel_rfl) (by simp) ?_;refine AllReadyL.consS rfl (fun K hK=>?_) ?_
    ·obtain⟨v12,wx12,hq12,o12,hgr12,hv12⟩:=appP _ w1.heap.size v7 (.slice (some ⟨g11,0,none⟩) 1 1) (l.take i) [⟨k,v⟩] o7 hone.src hHeld.size (by have:=HLL.out;simp;omega);have hk12:Kp (fun z=>v7.ownBlock=some z) _ wx12:=Kp.ofGrown hgr12 (fun k hk _=>hk);clear hgr12 hv12;refine AC (d:=31) (by rfl) (by rfl) (.tmp 26) (.tmp 30) 33 33 (by rfl) _ _ (by rfl) (by rfl) hq12 ?_;refine hK.out _ _ (hHeld.trans hk12 (fun _ _ h=>h) (fun k hk h=>absurd hk (by have:=(o7.lt k h).1;omega))) (fun hHeld=>?_)
     clear hK K;try simp only[Act.put,PT,PU,PV]
     clear hq12 o7 hone;refine Ap (rs:=[19]) (by kernel_rfl) (by simp) ?_;refine AllReadyL.consS rfl (fun K hK=>?_) ?_
     ·obtain⟨v19,wx19,hq19,o19,hgr19,hv19⟩:=appP _ w1.heap.size v12 DV _ (l.drop i) o12 (HPD.out _ hHeld).src hHeld.size (by have:=HLL.out;simp;omega);have hk19:Kp (fun z=>v12.ownBlock=some z) _ wx19:=Kp.ofGrown hgr19 (fun k hk _=>hk);clear hgr19 hv19;refine AC (d:=38) (by rfl) (by rfl) (.tmp 31) (.tmp 37) 33 33 (by rfl) _ _ (by rfl) (by rfl) hq19 ?_;refine hK.out _ _ (hHeld.trans hk19 (fun _ _ h=>h) (fun k hk h=>absurd hk (by have:=(o12.lt k h).1;omega))) (fun hHeld=>?_);clear hK K
      try simp only[Act.put,PT,PU,PV]
      clear hq19 o12;obtain⟨a4,c4,e4,_⟩:=o19.prs;obtain⟨n4,Hn4⟩:∃m,Hid ((l.take i++[(⟨k,v⟩:Pr)]++l.drop i).length=m):=⟨_,rfl⟩;rw[Hn4.out]at e4;subst e4;refine Ab (i:=20) (d:=39) (v:=?_) [21,20] rfl rfl (by kernel_rfl) (by kernel_rfl) (by kernel_rfl) (by kernel_rfl) (by kernel_rfl) (fun _ _ _ h=>h) (Or.inl ⟨by rfl,?_⟩) (by assumption) ?_;rotate_left
      ·intro W hSW;try dsimp only at hSW
       go_simp;try with_reducible rfl
      try simp only[Act.put,PT,PU,PV]
      refine Ab (i:=21) (d:=40) (v:=?_) [21] rfl rfl (by kernel_rfl) (by kernel_rfl) (by kernel_rfl) (by kernel_rfl) (by kernel_rfl) (fun _ _ _ h=>h) (Or.inl ⟨by rfl,?_⟩) (by assumption) ?_;rotate_left
      ·intro W hSW;try dsimp only at hSW
       go_simp;try with_reducible rfl
      try simp only[Act.put,PT,PU,PV]
      refine Ap (rs:=[22]) (by kernel_rfl) (by simp) ?_;refine AllReadyL.consL rfl (fun K hK=>?_) ?_
      ·refine By (by rfl) (by rfl) (.tmp 40) (.tmp 38) (by rfl) b (by rfl) (by rfl) (HBK.out _ hHeld) ?_;intro wx22 hpk hk22;refine hK.out _ _ ?_;clear hK K;try simp only[Act.put,PT,PU,PV]
       refine B0 (by kernel_rfl) ?_ _;try go_wp2
       first|go_end0|((try simp only[Exit.inBlock,Exit.then]);refine bodyPost_ret (results_none rfl _ _ _) rfl ?_)
       exact⟨rfl,_,hpk,(HEND.out _ _ _ hHeld hk22 o19)⟩
      exact AllReadyL.nil
     exact AllReadyL.nil
    exact AllReadyL.nil
   exact AllReadyL.nil
  exact AllReadyL.nil
 | true =>
  rw[ht]at HPL HFJ;have hji:(i+1)=j:=HFJ.out.symm;subst hji;have hI1:(i:Int)+1<=(l.length:Int):=by omega
  have hI2:(i:Int)<=(i:Int)+1:=by omega
  have hI3:(i:Int)+1<=(c:Int):=by omega
  have hI4:((i:Int)+1).toNat=i+1:=by omega
  have hI5:(0:Int)<=(i:Int)+1:=by omega
  have hI6:IntKind.i64.wrap ((i:Int)+1)=(i:Int)+1:=by rw[IntKind.wrap_i64];omega
  go_enter func36,ntmps36;go_upto_region 4 with (first
   | (go_at_call 27;refine HPL.out.mono ?_;rintro e w1 ⟨rfl,hK1⟩)
   | fail)
  have HBK:Hid (∀W,Kp none' w1 W->Pk W b r root (.slice a l.length c)):=fun W h=>(hb.kept hK1 (fun h=>h)).kept h (fun h=>h);have HPA:Hid (∀W,Kp none' w1 W->Prs w1.heap.size W (.slice a l.length c) l):=fun W h=>((hP.keptN hK1).mono hK1.size).keptN h;have HEND:Hid (∀(W W':World) (x:Value),Kp none' w1 W->Kp (only b) W W'->OwP W w1.heap.size x (l.take i++[⟨k,v⟩]++l.drop (i+1))->Pq W' b x (putL l k v)/\(∀g,x.ownBlock=some g->w.heap.size<=g)/\Kp (only b) w W'):=fun W W' x h1 h2 h3=>by
   have hs:=hK1.size;refine⟨?_,fun g h=>by have:=(h3.lt g h).1;omega,(hK1.thenN h1).trans h2 (fun _ _ h=>h.elim) (fun _ _ h=>h)⟩;rw[HPUT.out];exact⟨(h3.kept h2 (fun z hz hzo=>by have:=(h3.lt z hz).1;have:=HBL.out;unfold only at hzo;omega)).mono (by have:=HBL.out;omega),HAS.out.1,HAS.out.2⟩
  obtain⟨DV,HDV⟩:∃q,Hid ((if c=(i+1) then Value.slice a 0 0 else .slice (a.map (fun x=>x.add ((i+1)*2))) (l.length - (i+1)) (c - (i+1)))=q):=⟨_,rfl⟩;have HPD:Hid (∀W,Kp none' w1 W->Prs w1.heap.size W DV (l.drop (i+1))):=fun W h=>by
   rw[<-HDV.out];by_cases hcj:c=(i+1)
   ·rw[if_pos hcj];exact(HPA.out W h).drop0 (i+1) hbl hcj
   ·rw[if_neg hcj];exact(HPA.out W h).dropM (i+1) hbl
  clear hP hb HPL HPUT HAS;refine BH 22 (fun W=>Kp none' w1 W) (by kernel_rfl) (Kp.drew _ _) (fun hHeld=>?_);refine Ab (i:=0) (d:=19) (v:=?_) [0] rfl rfl (by kernel_rfl) (by kernel_rfl) (by kernel_rfl) (by kernel_rfl) (by kernel_rfl) (fun _ _ _ h=>h) (Or.inl ⟨by rfl,?_⟩) (by assumption) ?_;rotate_left
  ·intro W hSW;try dsimp only at hSW
   go_simp;try with_reducible rfl
  try simp only[Act.put,PT,PU,PV]
  refine Ab (i:=1) (d:=20) (v:=?_) [1] rfl rfl (by kernel_rfl) (by kernel_rfl) (by kernel_rfl) (by kernel_rfl) (by kernel_rfl) (fun _ _ _ h=>h) (Or.inl ⟨by rfl,?_⟩) (by assumption) ?_;rotate_left
  ·intro W hSW;try dsimp only at hSW
   go_simp;try with_reducible rfl
  try simp only[Act.put,PT,PU,PV]
  refine Ab (i:=2) (d:=21) (v:=?_) [2] rfl rfl (by kernel_rfl) (by kernel_rfl) (by kernel_rfl) (by kernel_rfl) (by kernel_rfl) (fun _ _ _ h=>h) (Or.inl ⟨by rfl,?_⟩) (by assumption) ?_;rotate_left
  ·intro W hSW;try dsimp only at hSW
   go_simp;try with_reducible rfl
  try simp only[Act.put,PT,PU,PV]
  refine Ab (i:=3) (d:=22) (v:=?_) [3] rfl rfl (by kernel_rfl) (by kernel_rfl) (by kernel_rfl) (by kernel_rfl) (by kernel_rfl) (fun _ _ _ h=>h) (Or.inl ⟨by rfl,?_⟩) (by assumption) ?_;rotate_left
  ·intro W hSW;try dsimp only at hSW
   go_simp;try with_reducible rfl
  try simp only[Act.put,PT,PU,PV]
  refine Ab (i:=4) (d:=23) (v:=?_) [4] rfl rfl (by kernel_rfl) (by kernel_rfl) (by kernel_rfl) (by kernel_rfl) (by kernel_rfl) (fun _ _ _ h=>h) (Or.inl ⟨by rfl,?_⟩) (by assumption) ?_;rotate_left
  ·intro W hSW;try dsimp only at hSW
   have g:=(HBK.out _ hSW).c2;go_simp;try with_reducible rfl
  try simp only[Act.put,PT,PU,PV]
  refine Ab (i:=5) (d:=24) (v:=?_) [5] rfl rfl (by kernel_rfl) (by kernel_rfl) (by kernel_rfl) (by kernel_rfl) (by kernel_rfl) (fun _ _ _ h=>h) (Or.inl ⟨by rfl,?_⟩) (by assumption) ?_;rotate_left
  ·intro W hSW;try dsimp only at hSW
   go_simp;try with_reducible rfl
  try simp only[Act.put,PT,PU,PV]
  refine Ab (i:=6) (d:=25) (v:=?_) [6] rfl rfl (by kernel_rfl) (by kernel_rfl) (by kernel_rfl) (by kernel_rfl) (by kernel_rfl) (fun _ _ _ h=>h) (Or.inl ⟨by rfl,?_⟩) (by assumption) ?_;rotate_left
  ·intro W hSW;try dsimp only at hSW
   go_simp;try with_reducible rfl
  try simp only[Act.put,PT,PU,PV]
  refine Ab (i:=8) (d:=27) (v:=?_) [8] rfl rfl (by kernel_rfl) (by kernel_rfl) (by kernel_rfl) (by kernel_rfl) (by kernel_rfl) (fun _ _ _ h=>h) (Or.inl ⟨by rfl,?_⟩) (by assumption) ?_;rotate_left
  ·intro W hSW;try dsimp only at hSW
   go_simp;try with_reducible rfl
  try simp only[Act.put,PT,PU,PV]
  refine Ab (i:=9) (d:=28) (v:=?_) [9] rfl rfl (by kernel_rfl) (by kernel_rfl) (by kernel_rfl) (by kernel_rfl) (by kernel_rfl) (fun _ _ _ h=>h) (Or.inl ⟨by rfl,?_⟩) (by assumption) ?_;rotate_left
  ·intro W hSW;try dsimp only at hSW
   go_simp;try with_reducible rfl
  try simp only[Act.put,PT,PU,PV]
  refine Ab (i:=10) (d:=29) (v:=?_) [10] rfl rfl (by kernel_rfl) (by kernel_rfl) (by kernel_rfl) (by kernel_rfl) (by kernel_rfl) (fun _ _ _ h=>h) (Or.inl ⟨by rfl,?_⟩) (by assumption) ?_;rotate_left
  ·intro W hSW;try dsimp only at hSW
   go_simp;try with_reducible rfl
  try simp only[Act.put,PT,PU,PV]
  refine Ab (i:=13) (d:=32) (v:=?_) [13] rfl rfl (by kernel_rfl) (by kernel_rfl) (by kernel_rfl) (by kernel_rfl) (by kernel_rfl) (fun _ _ _ h=>h) (Or.inl ⟨by rfl,?_⟩) (by assumption) ?_;rotate_left
  ·intro W hSW;try dsimp only at hSW
   go_simp;try with_reducible rfl
  try simp only[Act.put,PT,PU,PV]
  refine Ab (i:=14) (d:=33) (v:=?_) [14] rfl rfl (by kernel_rfl) (by kernel_rfl) (by kernel_rfl) (by kernel_rfl) (by kernel_rfl) (fun _ _ _ h=>h) (Or.inl ⟨by rfl,?_⟩) (by assumption) ?_;rotate_left
  ·intro W hSW;try dsimp only at hSW
   go_simp;try with_reducible rfl
  try simp only[Act.put,PT,PU,PV]
  refine Ab (i:=15) (d:=34) (v:=?_) [15] rfl rfl (by kernel_rfl) (by kernel_rfl) (by kernel_rfl) (by kernel_rfl) (by kernel_rfl) (fun _ _ _ h=>h) (Or.inl ⟨by rfl,?_⟩) (by assumption) ?_;rotate_left
  ·intro W hSW;try dsimp only at hSW
   go_simp;try with_reducible rfl
  try simp only[Act.put,PT,PU,PV]
  refine Ab (i:=16) (d:=35) (v:=?_) [16] rfl rfl (by kernel_rfl) (by kernel_rfl) (by kernel_rfl) (by kernel_rfl) (by kernel_rfl) (fun _ _ _ h=>h) (Or.inl ⟨by rfl,?_⟩) (by assumption) ?_;rotate_left
  ·intro W hSW;try dsimp only at hSW
   have g:=(HBK.out _ hSW).c2;go_simp;try with_reducible rfl
  try simp only[Act.put,PT,PU,PV]
  refine Ab (i:=17) (d:=36) (v:=?_) [17] rfl rfl (by kernel_rfl) (by kernel_rfl) (by kernel_rfl) (by kernel_rfl) (by kernel_rfl) (fun _ _ _ h=>h) (Or.inl ⟨by rfl,?_⟩) (by assumption) ?_;rotate_left
  ·intro W hSW;try dsimp only at hSW
   go_simp;try with_reducible rfl
  try simp only[Act.put,PT,PU,PV]
  refine Ab (i:=18) (d:=37) (v:=DV) [18] rfl rfl (by kernel_rfl) (by kernel_rfl) (by kernel_rfl) (by kernel_rfl) (by kernel_rfl) (fun _ _ _ h=>h) (Or.inl ⟨by rfl,?_⟩) (by assumption) ?_
  ·intro W hSW;rw[<-HDV.out];by_cases hcj:c=(i+1)
   ·have hcj2:(i+1)=c:=hcj.symm;rw[if_pos hcj];clear hcj HDV HPD;subst hcj2;go_simp
   ·rw[if_neg hcj];go_simp
  try simp only[Act.put,PT,PU,PV]
  refine Ap (rs:=[7,11]) (by kernel_rfl) (by simp) ?_;refine AllReadyL.consS rfl (fun K hK=>?_) ?_
  ·obtain⟨v7,wx7,hq7,o7,hgr7,hv7⟩:=appP _ w1.heap.size (.slice none 0 0) (.slice a i c) [] (l.take i) (OwP.nil _ _) ((HPA.out _ hHeld).take i hfl).src hHeld.size (by have:=HLL.out;simp;omega);rw[List.nil_append]at o7;have hk7:Kp none' _ wx7:=Kp.ofGrown hgr7 (fun k hk _=>by cases hk);clear hgr7 hv7;refine AC (d:=26) (by rfl) (by rfl) (.const (.slice none 0 0)) (.tmp 25) 33 33 (by rfl) _ _ (by rfl) (by rfl) hq7 ?_;refine hK.out _ _ (hHeld.thenN hk7) (fun hHeld=>?_);clear hK K
   try simp only[Act.put,PT,PU,PV]
   clear hq7;refine Ap (rs:=[11]) (by kernel_rfl) (by simp) ?_;refine AllReadyL.consS rfl (fun K hK=>?_) ?_
   ·refine B3 (d:=30) (by rfl) (by rfl) (.tmp 29) (by rfl) (by rfl) ?_;intro wx11 g11 hone hk11;replace o7:=o7.keptN hk11;refine hK.out _ _ (hHeld.thenN hk11) (fun hHeld=>?_);clear hK K;try simp only[Act.put,PT,PU,PV]
    refine Ap (rs:=[12]) (by kernel_rfl) (by simp) ?_;refine AllReadyL.consS rfl (fun K hK=>?_) ?_
    ·obtain⟨v12,wx12,hq12,o12,hgr12,hv12⟩:=appP _ w1.heap.size v7 (.slice (some ⟨g11,0,none⟩) 1 1) (l.take i) [⟨k,v⟩] o7 hone.src hHeld.size (by have:=HLL.out;simp;omega);have hk12:Kp (fun z=>v7.ownBlock=some z) _ wx12:=Kp.ofGrown hgr12 (fun k hk _=>hk);clear hgr12 hv12;refine AC (d:=31) (by rfl) (by rfl) (.tmp 26) (.tmp 30) 33 33 (by rfl) _ _ (by rfl) (by rfl) hq12 ?_;refine hK.out _ _ (hHeld.trans hk12 (fun _ _ h=>h) (fun k hk h=>absurd hk (by have:=(o7.lt k h).1;omega))) (fun hHeld=>?_)
     clear hK K;try simp only[Act.put,PT,PU,PV]
     clear hq12 o7 hone;refine Ap (rs:=[19]) (by kernel_rfl) (by simp) ?_;refine AllReadyL.consS rfl (fun K hK=>?_) ?_
     ·obtain⟨v19,wx19,hq19,o19,hgr19,hv19⟩:=appP _ w1.heap.size v12 DV _ (l.drop (i+1)) o12 (HPD.out _ hHeld).src hHeld.size (by have:=HLL.out;simp;omega);have hk19:Kp (fun z=>v12.ownBlock=some z) _ wx19:=Kp.ofGrown hgr19 (fun k hk _=>hk);clear hgr19 hv19;refine AC (d:=38) (by rfl) (by rfl) (.tmp 31) (.tmp 37) 33 33 (by rfl) _ _ (by rfl) (by rfl) hq19 ?_;refine hK.out _ _ (hHeld.trans hk19 (fun _ _ h=>h) (fun k hk h=>absurd hk (by have:=(o12.lt k h).1;omega))) (fun hHeld=>?_);clear hK K
      try simp only[Act.put,PT,PU,PV]
      clear hq19 o12;obtain⟨a4,c4,e4,_⟩:=o19.prs;obtain⟨n4,Hn4⟩:∃m,Hid ((l.take i++[(⟨k,v⟩:Pr)]++l.drop (i+1)).length=m):=⟨_,rfl⟩;rw[Hn4.out]at e4;subst e4;refine Ab (i:=20) (d:=39) (v:=?_) [21,20] rfl rfl (by kernel_rfl) (by kernel_rfl) (by kernel_rfl) (by kernel_rfl) (by kernel_rfl) (fun _ _ _ h=>h) (Or.inl ⟨by rfl,?_⟩) (by assumption) ?_;rotate_left
      ·intro W hSW;try dsimp only at hSW
       go_simp;try with_reducible rfl
      try simp only[Act.put,PT,PU,PV]
      refine Ab (i:=21) (d:=40) (v:=?_) [21] rfl rfl (by kernel_rfl) (by kernel_rfl) (by kernel_rfl) (by kernel_rfl) (by kernel_rfl) (fun _ _ _ h=>h) (Or.inl ⟨by rfl,?_⟩) (by assumption) ?_;rotate_left
      ·intro W hSW;try dsimp only at hSW
       go_simp;try with_reducible rfl
      try simp only[Act.put,PT,PU,PV]
      refine Ap (rs:=[22]) (by kernel_rfl) (by simp) ?_;refine AllReadyL.consL rfl (fun K hK=>?_) ?_
      ·refine By (by rfl) (by rfl) (.tmp 40) (.tmp 38) (by rfl) b (by rfl) (by rfl) (HBK.out _ hHeld) ?_;intro wx22 hpk hk22;refine hK.out _ _ ?_;clear hK K;try simp only[Act.put,PT,PU,PV]
       refine B0 (by kernel_rfl) ?_ _;try go_wp2
       first|go_end0|((try simp only[Exit.inBlock,Exit.then]);refine bodyPost_ret (results_none rfl _ _ _) rfl ?_)
       exact⟨rfl,_,hpk,(HEND.out _ _ _ hHeld hk22 o19)⟩
      exact AllReadyL.nil
     exact AllReadyL.nil
    exact AllReadyL.nil
   exact AllReadyL.nil
  refine AllReadyL.consS rfl (fun K hK=>?_) ?_
  ·refine B3 (d:=30) (by rfl) (by rfl) (.tmp 29) (by rfl) (by rfl) ?_;intro wx11 g11 hone hk11;refine hK.out _ _ (hHeld.thenN hk11) (fun hHeld=>?_);clear hK K;try simp only[Act.put,PT,PU,PV]
   refine Ap (rs:=[7]) (by kernel_rfl) (by simp) ?_;refine AllReadyL.consS rfl (fun K hK=>?_) ?_
   ·obtain⟨v7,wx7,hq7,o7,hgr7,hv7⟩:=appP _ w1.heap.size (.slice none 0 0) (.slice a i c) [] (l.take i) (OwP.nil _ _) ((HPA.out _ hHeld).take i hfl).src hHeld.size (by have:=HLL.out;simp;omega);rw[List.nil_append]at o7;have hk7:Kp none' _ wx7:=Kp.ofGrown hgr7 (fun k hk _=>by cases hk);clear hgr7 hv7;replace hone:=hone.keptN hk7;refine AC (d:=26) (by rfl) (by rfl) (.const (.slice none 0 0)) (.tmp 25) 33 33 (by rfl) _ _ (by rfl) (by rfl) hq7 ?_
    refine hK.out _ _ (hHeld.thenN hk7) (fun hHeld=>?_);clear hK K;try simp only[Act.put,PT,PU,PV]
    clear hq7;refine Ap (rs:=[12]) (by kernel_rfl) (by simp) ?_;refine AllReadyL.consS rfl (fun K hK=>?_) ?_
    ·obtain⟨v12,wx12,hq12,o12,hgr12,hv12⟩:=appP _ w1.heap.size v7 (.slice (some ⟨g11,0,none⟩) 1 1) (l.take i) [⟨k,v⟩] o7 hone.src hHeld.size (by have:=HLL.out;simp;omega);have hk12:Kp (fun z=>v7.ownBlock=some z) _ wx12:=Kp.ofGrown hgr12 (fun k hk _=>hk);clear hgr12 hv12;refine AC (d:=31) (by rfl) (by rfl) (.tmp 26) (.tmp 30) 33 33 (by rfl) _ _ (by rfl) (by rfl) hq12 ?_;refine hK.out _ _ (hHeld.trans hk12 (fun _ _ h=>h) (fun k hk h=>absurd hk (by have:=(o7.lt k h).1;omega))) (fun hHeld=>?_)
     clear hK K;try simp only[Act.put,PT,PU,PV]
     clear hq12 o7 hone;refine Ap (rs:=[19]) (by kernel_rfl) (by simp) ?_;refine AllReadyL.consS rfl (fun K hK=>?_) ?_
     ·obtain⟨v19,wx19,hq19,o19,hgr19,hv19⟩:=appP _ w1.heap.size v12 DV _ (l.drop (i+1)) o12 (HPD.out _ hHeld).src hHeld.size (by have:=HLL.out;simp;omega);have hk19:Kp (fun z=>v12.ownBlock=some z) _ wx19:=Kp.ofGrown hgr19 (fun k hk _=>hk);clear hgr19 hv19;refine AC (d:=38) (by rfl) (by rfl) (.tmp 31) (.tmp 37) 33 33 (by rfl) _ _ (by rfl) (by rfl) hq19 ?_;refine hK.out _ _ (hHeld.trans hk19 (fun _ _ h=>h) (fun k hk h=>absurd hk (by have:=(o12.lt k h).1;omega))) (fun hHeld=>?_);clear hK K
      try simp only[Act.put,PT,PU,PV]
      clear hq19 o12;obtain⟨a4,c4,e4,_⟩:=o19.prs;obtain⟨n4,Hn4⟩:∃m,Hid ((l.take i++[(⟨k,v⟩:Pr)]++l.drop (i+1)).length=m):=⟨_,rfl⟩;rw[Hn4.out]at e4;subst e4;refine Ab (i:=20) (d:=39) (v:=?_) [21,20] rfl rfl (by kernel_rfl) (by kernel_rfl) (by kernel_rfl) (by kernel_rfl) (by kernel_rfl) (fun _ _ _ h=>h) (Or.inl ⟨by rfl,?_⟩) (by assumption) ?_;rotate_left
      ·intro W hSW;try dsimp only at hSW
       go_simp;try with_reducible rfl
      try simp only[Act.put,PT,PU,PV]
      refine Ab (i:=21) (d:=40) (v:=?_) [21] rfl rfl (by kernel_rfl) (by kernel_rfl) (by kernel_rfl) (by kernel_rfl) (by kernel_rfl) (fun _ _ _ h=>h) (Or.inl ⟨by rfl,?_⟩) (by assumption) ?_;rotate_left
      ·intro W hSW;try dsimp only at hSW
       go_simp;try with_reducible rfl
      try simp only[Act.put,PT,PU,PV]
      refine Ap (rs:=[22]) (by kernel_rfl) (by simp) ?_;refine AllReadyL.consL rfl (fun K hK=>?_) ?_
      ·refine By (by rfl) (by rfl) (.tmp 40) (.tmp 38) (by rfl) b (by rfl) (by rfl) (HBK.out _ hHeld) ?_;intro wx22 hpk hk22;refine hK.out _ _ ?_;clear hK K;try simp only[Act.put,PT,PU,PV]
       refine B0 (by kernel_rfl) ?_ _;try go_wp2
       first|go_end0|((try simp only[Exit.inBlock,Exit.then]);refine bodyPost_ret (results_none rfl _ _ _) rfl ?_)
       exact⟨rfl,_,hpk,(HEND.out _ _ _ hHeld hk22 o19)⟩
      exact AllReadyL.nil
     exact AllReadyL.nil
    exact AllReadyL.nil
   exact AllReadyL.nil
  exact AllReadyL.nil
end Go.Proofs.YtjojffepakclcaaGreatDoor
