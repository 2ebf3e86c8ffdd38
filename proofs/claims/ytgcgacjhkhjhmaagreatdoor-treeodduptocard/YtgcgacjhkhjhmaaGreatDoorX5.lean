/- Part of the proof: contracts over the turned program. -/
import Derived.Lib.AppendZerosOnto
import Derived.Test.YtgcgacjhkhjhmaaGreatDoorX4
set_option linter.unusedVariables false
set_option maxHeartbeats 4000000
open Go.Proofs.Tryz
namespace Go.Proofs.YtgcgacjhkhjhmaaGreatDoor
open Go Go.RowKit
theorem KK{α:Type}(f:α->Value)(e t:TypeId)(z:Value)(by_:Nat)(ht:prog.underlying t=some (.slice e))(hinfo:(prog.info? e).map (fun i=>(i.zero,i.size,i.bytes))=some (some z,1,by_))(hzc:z.cells.size=1)(hby:by_<=64)
  (w:World) (base:Nat) (v x:Value) (l k:List α) (hO:Ow f e w base v l) (hs:Src prog 1 t x k.length (k.map f) w) (hb:base<=w.heap.size) (hl:l.length+k.length<=1000000000) :
  ∃v' w',(Builtin.append_ #[t,t] t #[v,x]).run prog w=.ok v' w'/\Ow f e w' base v' (l++k)/\w.grownBy w' v.ownBlock/\(v'.ownBlock=v.ownBlock\/v'.ownBlock=some w.heap.size):=by
 obtain⟨v',w',h1,h2,h3,h4⟩:=KL t e t z 1 by_ ht hinfo hzc hby w base v _ _ x _ _ hO hs hb hl;refine⟨v',w',h1,?_,h3,h4⟩;unfold Ow;rw[List.length_append,List.map_append];exact h2
theorem appT(w:World)(base:Nat)(v x:Value)(l k:List ByteArray)(hO:Ow Value.string 9 w base v l)(hs:Src prog 1 32 x k.length (k.map Value.string) w)(hb:base<=w.heap.size)(hl:l.length+k.length<=1000000000) :
  ∃v' w',(Builtin.append_ #[32,32] 32 #[v,x]).run prog w=.ok v' w'/\Ow Value.string 9 w' base v' (l++k)/\w.grownBy w' v.ownBlock/\(v'.ownBlock=v.ownBlock\/v'.ownBlock=some w.heap.size) :=
 KK Value.string 9 32 _ 16 underlying32 Fd rfl (by omega) w base v x l k hO hs hb hl
theorem appI(w:World)(base:Nat)(v x:Value)(l k:List Int)(hO:Ow (Value.int .i64) 3 w base v l)(hs:Src prog 1 33 x k.length (k.map (Value.int .i64)) w)(hb:base<=w.heap.size)(hl:l.length+k.length<=1000000000) :
  ∃v' w',(Builtin.append_ #[33,33] 33 #[v,x]).run prog w=.ok v' w'/\Ow (Value.int .i64) 3 w' base v' (l++k)/\w.grownBy w' v.ownBlock/\(v'.ownBlock=v.ownBlock\/v'.ownBlock=some w.heap.size) :=
 KK (Value.int .i64) 3 33 _ 8 underlying33 infoI rfl (by omega) w base v x l k hO hs hb hl
set_option maxRecDepth 100000 in
theorem Es(t e:TypeId)(z:Value)(sz by_:Nat)(ht:prog.underlying t=some (.slice e))(hinfo:(prog.info? e).map (fun i=>(i.zero,i.size,i.bytes))=some (some z,sz,by_))(hzc:z.cells.size=sz)(hsz:0<sz)(hby:by_<=64)(w:World)(n:Nat)(h0:0<n)(hn:n<=1000000000) :
  ∃c w',(Builtin.append_ #[t,3] t #[.slice none 0 0,.int .i64 (n:Int)]).run prog w=.ok (.slice (some ⟨w.heap.size,0,none⟩) n c) w'/\w'.ownsRow w.heap.size e sz (.slice (some ⟨w.heap.size,0,none⟩) 0 c) 0 []/\Kp none' w w':=by
 obtain⟨i0,hi,hz0,hz1,hz2⟩:=info_parts hinfo;have hfits:n*by_<=140737488355328:=by
  have:n*by_<=1000000000*64:=Nat.mul_le_mul hn hby
  omega
 have hr:=Lib.run_append_grow_zeros (P:=prog) w t 3 t e i0 z .i64 .i64 ht underlying3 hi hz0 none 0 0 [] (run_firstCells_none w.drew i0.size 0 0 0) n h0 (by omega) (by omega) (by omega) (by rw[hz2];omega) (growslice_fits (by omega) (by rw[hz2,Nat.zero_add];exact hfits));rw[Nat.zero_add]at hr;have hge:=grownCap_ge w n 0 e;have hcm:grownCap w n 0 e<=maxLen:=grownCap_le_maxLen w _ 0 e (by unfold maxLen;omega)
 refine⟨_,_,hr,⟨by simp,.inr ⟨w.heap.size,grownCap w n 0 e,_,rfl,Nat.le_refl _,heap_alloc_new w.drew _,Nat.zero_le _,hcm,?_,by simp⟩⟩,(Kp.drew _ _).thenN (Kp.alloc _ _ _)⟩;simp only[Array.size_append,List.size_toArray,List.length_nil,size_zeroCells,hzc];rw[Nat.zero_add,<-Nat.add_mul];congr 1;omega
theorem Bn{α:Type}(ls:List (List α))(j:Nat)(h:j<ls.length):(ls.take (j+1)).flatten=(ls.take j).flatten++ls[j]:=by
 rw[List.take_succ_eq_append_getElem h,List.flatten_append];simp
theorem AK{α:Type}(ls:List (List α))(j:Nat):(ls.take j).flatten.length<=ls.flatten.length:=by
 conv=>rhs;rw[<-List.take_append_drop j ls,List.flatten_append,List.length_append]
 exact Nat.le_add_right _ _
set_option maxRecDepth 100000 in
theorem growP(n:Nat)(w:World)(hn:n<=1000000000) :
  Calls prog 125 #[.slice none 0 0,.int .i64 (n:Int)] w fun e w'=>∃v',e=.returned v'/\OwP w' w.heap.size v' []/\Kp none' w w':=by
 by_cases h0:n=0
 ·subst h0;rw[show ((0:Nat):Int)=0 from rfl];go_enter func125,ntmps125;go_wp2;go_ret;exact⟨_,rfl,OwP.nil _ _,Kp.refl _ _⟩
 ·obtain⟨c,w1,hr,hO,hK⟩:=Es 31 92 _ 2 32 underlying31 JX rfl (by omega) (by omega) w n (by omega) hn;have h1:¬(n:Int)<0:=by omega
  have h2:(0:Int)<(n:Int):=by omega
  have h3:wrap64 (n:Int)=(n:Int):=by unfold wrap64;omega
  have HO:=hide hO;clear hO h0;go_enter func125,ntmps125;go_wp2_with (first
   | (at_builtin;refine Ak rfl (.tmp 20) (.tmp 21) 31 3 rfl _ _ rfl rfl (by first|exact hr|(rw[h3];exact hr)) ?_)
   | fail)
  go_ret;exact⟨_,rfl,HO.out,hK⟩
set_option maxRecDepth 100000 in
theorem ON(v:Value)(vs:List Value)(ls:List (List Pr))(B B':Nat)(w:World)(hV:Sl (fun x:Value=>x) B w v vs)(hL:vs.length=ls.length)(hI:∀i (h:i<vs.length) (h':i<ls.length),Prs B' w vs[i] ls[i])(hT:ls.flatten.length<=100000000) :
  Calls prog 93 #[v] w fun e w'=>∃v',e=.returned v'/\OwP w' w.heap.size v' ls.flatten/\Kp none' w w':=by
 obtain⟨a,c,rfl,hlc,hcm,ha⟩:=hV;unfold maxLen at hcm;have HA:Hid (∀i (h:i<vs.length),∃b off,a=some ⟨b,off,none⟩/\b<B/\w.cell? ⟨b,off+i,none⟩=some (vs[i])):=ha;have HI:=hide hI;have HL:=hide hL;have HG:Hid (∀W:World,∀n:Nat,n<=1000000000->Calls prog 125 #[.slice none 0 0,.int .i64 (n:Int)] W fun e w'=>∃v',e=.returned v'/\OwP w' W.heap.size v' []/\Kp none' W w'):=fun W n hn=>growP n W hn;obtain⟨m,Hm⟩:∃m,Hid (vs.length=m):=⟨_,rfl⟩;rw[Hm.out]at hlc;clear ha hI hL;rw[Hm.out]
 go_enter func93,ntmps93;go_wp2;go_loopw [3,5,11] (fun t _ u wr=>∃j q:Nat,j<=m/\u=.int .i64 j/\t=.int .i64 (q:Int)/\Hid ((ls.take j).flatten.length=q)/\w=wr) (fun _ _ u _=>m - (intOf u).toNat)
 case atStart=>exact⟨0,0,Nat.zero_le _,rfl,rfl,rfl,rfl⟩
 case round =>
  obtain⟨j,q,hj,rfl,rfl,HQ,rfl⟩:=hrel;by_cases hlt:j<m
  ·have hlv:j<vs.length:=by rw[Hm.out];exact hlt
   have hll:j<ls.length:=by rw[<-HL.out];exact hlv
   obtain⟨b,o,rfl,_,hc⟩:=HA.out j hlv;obtain⟨a',c',e,hx⟩:=HI.out j hlv hll;clear hx;rw[e]at hc;have hlt':(j:Int)<(m:Int):=by omega
   obtain⟨r,HR⟩:∃r:Nat,Hid ((ls.take (j+1)).flatten.length=r):=⟨_,rfl⟩;have HS:Hid (q+ls[j].length=r/\r<=100000000):=by
    have h1:=Bn ls j hll;have h2:=AK ls (j+1);have h3:=congrArg List.length h1;rw[List.length_append,HQ.out,HR.out]at h3;rw[HR.out]at h2;show _/\_;omega
   generalize ls[j].length=d at *;have hw1:wrap64 ((q:Int)+(d:Int))=(r:Int):=by have:=HS.out;unfold wrap64;omega
   have hw2:IntKind.i64.wrap ((q:Int)+(d:Int))=(r:Int):=by have:=HS.out;rw[IntKind.wrap_i64];omega
   have hr0:¬(r:Int)<0:=by omega
   clear HQ e;go_wp2;go_roundw
   case rel=>exact⟨j+1,r,by omega,by go_num,by first|rfl|rw[hw1]|rw[hw2],HR,by first|rfl|trivial⟩
   case measure=>simp[intOf];omega
  ·have hlt':¬(j:Int)<(m:Int):=by omega
   have hjm:j=m:=by omega
   have Hq:Hid (q<=1000000000):=by
    have h1:=AK ls j;rw[HQ.out]at h1;show _<=_;omega
   clear HQ;go_wp2_with (first
    | (go_at_call 125;refine(HG.out _ q Hq.out).mono ?_;rintro e w1 ⟨v1,rfl,hO1,hK1⟩)
    | fail)
   have HO1:=hide hO1;clear hO1 hlt' hjm;go_loopw [6,8,27] (fun t _ u wr=>∃j:Nat,j<=m/\u=.int .i64 j/\OwP wr w.heap.size t ((ls.take j).flatten)/\Kp none' w wr) (fun _ _ u _=>m - (intOf u).toNat)
   case atStart=>exact⟨0,Nat.zero_le _,rfl,HO1.out,hK1⟩
   case round =>
    obtain⟨j,hj,rfl,hO,hK⟩:=hrel;by_cases hlt:j<m
    ·have hlv:j<vs.length:=by rw[Hm.out];exact hlt
     have hll:j<ls.length:=by rw[<-HL.out];exact hlv
     obtain⟨b,o,rfl,_,hc'⟩:=HA.out j hlv;have hc:=hK.cell hc' (fun h=>h);have hin:=(HI.out j hlv hll).keptN hK;have hlt':(j:Int)<(m:Int):=by omega
     have hb:(ls.take j).flatten.length+ls[j].length<=1000000000:=by
      have h1:=Bn ls j hll;have h2:=AK ls (j+1);have h3:=congrArg List.length h1;rw[List.length_append]at h3;omega
     obtain⟨v2,w2,hq2,hO2,hg2,hv2⟩:=appP _ w.heap.size u6 vs[j] _ ls[j] hO hin.src hK.size hb;have hk2:Kp none' w w2:=hK.trans (Kp.ofGrown hg2 (S:=fun k=>u6.ownBlock=some k) (fun k hk _=>hk)) (fun _ _ h=>h) (fun k hk he=>absurd hk (by have:=(hO.lt k he).1;omega));have HT2:Hid (OwP w2 w.heap.size v2 ((ls.take (j+1)).flatten)):=by
      show OwP _ _ _ _;rw[Bn ls j hll];exact hO2
     obtain⟨a',c',e,_⟩:=hin;rw[e]at hc hq2;clear hb hO2 hc' e;go_wp2_with (first
      | (at_builtin;refine Ak rfl (.tmp 31) (.tmp 32) 31 31 rfl _ _ rfl rfl hq2 ?_)
      | fail)
     go_roundw
     case rel=>exact⟨j+1,by omega,by go_num,HT2.out,hk2⟩
     case measure=>simp[intOf];omega
    ·have hlt':¬(j:Int)<(m:Int):=by omega
     have HF:Hid (OwP wr w.heap.size u6 ls.flatten):=by
      have e:ls.take j=ls:=List.take_of_length_le (by have:=HL.out;have:=Hm.out;omega);rw[e]at hO;exact hO
     go_wp2;go_ret;exact⟨_,rfl,HF.out,hK⟩
theorem BI(w:World)(vs:List Value)(e:TypeId)(g m:Nat)(hg:w.heap.size=g)(hm:vs.length=m)(hc:m<=100):Sl (fun x:Value=>x) (g+1) (w.alloc (.cells vs.toArray e)) (.slice (some ⟨g,0,none⟩) m m) vs:=by
 subst hg hm;refine⟨_,_,rfl,Nat.le_refl _,by unfold maxLen;omega,fun i hi=>⟨w.heap.size,0,rfl,by omega,?_⟩⟩;have h:=heap_alloc_new w (.cells vs.toArray e);rw[cell_of_row _ w.heap.size (0+i) _ e (0,0) h];simp[hi]
set_option maxRecDepth 100000 in
theorem CN(v:Value)(vs:List Value)(ls:List (List Pr))(B B':Nat)(w:World)(hV:Sl (fun x:Value=>x) B w v vs)(hL:vs.length=ls.length)(hI:∀i (h:i<vs.length) (h':i<ls.length),Prs B' w vs[i] ls[i])(hT:ls.flatten.length<=100000000) :
  Calls prog 64 #[v] w fun e w'=>∃a c,e=.returned (.agg #[.bool true,.slice a ls.flatten.length c,.slice none 0 0,.slice none 0 0])/\OwP w' w.heap.size (.slice a ls.flatten.length c) ls.flatten/\Kp none' w w':=by
 have hK0:Kp none' w (w.alloc (.cells #[.bool false,.slice none 0 0,.slice none 0 0,.slice none 0 0] 35)):=Kp.alloc _ _ _;have hr0:=Nb.new w false (.slice none 0 0) (.slice none 0 0) (.slice none 0 0);have HC:Hid (∀W:World,Kp none' w W->Calls prog 93 #[v] W fun e w'=>∃a c,e=.returned (.slice a ls.flatten.length c)/\OwP w' W.heap.size (.slice a ls.flatten.length c) ls.flatten/\Kp none' W w'):=by
  intro W hk;refine(ON v vs ls B B' W (hV.keptN hk) hL (fun i h h'=>(hI i h h').keptN hk) hT).mono ?_;rintro e w' ⟨v',rfl,hO,hK⟩;obtain⟨a,c,rfl,_⟩:=hO.prs;exact⟨a,c,rfl,hO,hK⟩
 clear hV hI hL;obtain⟨L,HL⟩:∃L,Hid (ls.flatten=L):=⟨ls.flatten,hide rfl⟩;rw[HL.out]at HC |-;obtain⟨m,Hm⟩:∃m,Hid (L.length=m):=⟨L.length,hide rfl⟩;rw[Hm.out]at HC |-;have HLT:Hid (w.heap.size<(w.alloc (.cells #[.bool false,.slice none 0 0,.slice none 0 0,.slice none 0 0] 35)).heap.size):=hr0.lt;go_enter func64,ntmps64;go_upto_region 1 with fail;generalize w.alloc (.cells #[.bool false,.slice none 0 0,.slice none 0 0,.slice none 0 0] 35)=w0 at *
 have hfr:∀(W:World),Kp none' w0 W->Nb W w.heap.size false (.slice none 0 0) (.slice none 0 0) (.slice none 0 0):=fun W hk=>hr0.kept hk (fun h=>h);have HFR:=hide hfr;clear hfr;go_wp2_with (first
  | (go_at_call 93;refine(HC.out _ hK0).mono ?_;rintro e w1 ⟨a,c,rfl,hO1,hK1⟩;have hr1:=HFR.out w1 hK1;have HPT:=hide (hr1.put true (.slice a m c) (.slice none 0 0) (.slice none 0 0));have hd0:=hr1.c0;have hd1:=hr1.c1;have hd2:=hr1.c2;have hd3:=hr1.c3;have hf0:=hr1.fz 0;have hf1:=hr1.fz 1;have hf2:=hr1.fz 2;have hf3:=hr1.fz 3)
  | fail)
 refine bodyPost_ret (As rfl _ w.heap.size _ rfl HPT.out.1) rfl ?_;have hOn:∀k,(Value.slice a m c).ownBlock=some k->¬only w.heap.size k:=fun k hk h=>by
  have:=(hO1.lt k hk).1;have:=HLT.out;unfold only at h;omega
 refine⟨a,c,rfl,(hO1.kept HPT.out.2 hOn).mono (by have:=HLT.out;omega),(hK0.thenN hK1).trans HPT.out.2 (fun _ _ h=>h) (fun z hz hzo=>by unfold only at hzo;omega)⟩
set_option maxRecDepth 100000 in
theorem EX(x:Value)(n:Nd)(B:Nat)(k:ByteArray)(w:World)(hN:Nv B w x n) :
  Calls prog 63 #[x,.string k] w fun e w'=>∃v1 v2,e=.returned (.tuple #[v1,v2])/\Prs B w' v1 (n.ps.take (findN n.ps k))/\Prs B w' v2 (n.ps.drop (behind n.ps k))/\Kp none' w w':=by
 have hN':=hN;obtain⟨⟨pv,kv,dv,rfl,hP,hS,hD⟩,hwf⟩:=hN';obtain⟨a2,c2,rfl,_⟩:=hS;obtain⟨a3,c3,rfl,_⟩:=hD;have hP0:=hP;obtain⟨a,c,rfl,hlc,hcm,_⟩:=hP0;unfold maxLen at hcm;have hfl:=B8 n.ps k;have hbl:=Ea n.ps k;have hb0:=Nb.new w n.leaf (.slice a n.ps.length c) (.slice a2 n.ks.length c2) (.slice a3 n.kd.length c3);have hK0:Kp none' w (w.alloc (.cells #[.bool n.leaf,.slice a n.ps.length c,.slice a2 n.ks.length c2,.slice a3 n.kd.length c3] 35)):=Kp.alloc _ _ _
 have HF:Hid (∀W:World,Kp none' w W->Calls prog 36 #[.agg #[.bool n.leaf,.slice a n.ps.length c,.slice a2 n.ks.length c2,.slice a3 n.kd.length c3],.string k] W fun e w'=>e=.returned (.tuple #[.int .i64 (findN n.ps k),.bool (hasN n.ps k)])/\Kp none' W w'):=fun W hk=>E8 _ n B k W (hN.keptN hk);have d0:=hb0.c0;have d1:=hb0.c1;have d2:=hb0.c2;have d3:=hb0.c3;obtain⟨i,Hi⟩:∃i,Hid (findN n.ps k=i):=⟨_,rfl⟩
 have HBH:Hid (behind n.ps k=if hasN n.ps k then i+1 else i):=by show _=_;unfold behind;rw[Hi.out]
 rw[Hi.out]at hfl HF;have hil:(i:Int)<=(n.ps.length:Int):=by omega
 have hic:i<=c:=by omega
 have hic':(i:Int)<=(c:Int):=by omega
 clear hN;cases ht:hasN n.ps k with
 | true =>
  rw[ht]at HBH HF;have hb1:i+1<=n.ps.length:=by rw[HBH.out]at hbl;simpa using hbl
  clear hbl;obtain⟨i1,Hi1⟩:∃i1,Hid (i+1=i1):=⟨_,rfl⟩;have hi1:IntKind.i64.wrap ((i:Int)+1)=(i1:Int):=by rw[<-Hi1.out,IntKind.wrap_i64];omega
  have hi1l:(i1:Int)<=(n.ps.length:Int):=by have:=Hi1.out;omega
  have hi1n:i1<=n.ps.length:=by have:=Hi1.out;omega
  have hi1c:i1<=c:=by omega
  have HBE:Hid (behind n.ps k=i1):=by show _=_;rw[HBH.out,<-Hi1.out];rfl
  clear HBH hb1;by_cases hci:c=i1
  ·subst hci;go_enter func63,ntmps63;go_upto_region 3 with (first
    | (go_at_call 36;refine(HF.out _ hK0).mono ?_;rintro e w1 ⟨rfl,hK1⟩)
    | fail)
   have hb1:=hb0.kept hK1 (fun h=>h);have e1:=hb1.c1;clear d0 d1 d2 d3;go_quiet (fail);go_wp2;go_ret2;rw[Hi.out,HBE.out];have hPe:∀W:World,Kp none' w1 W->Prs B W (.slice a n.ps.length c) n.ps:=fun W hk=>hP.keptN (hK0.thenN (hK1.thenN hk));exact⟨_,_,rfl,(hPe _ (Kp.drewN _ _ _)).take i hfl,(hPe _ (Kp.drewN _ _ _)).drop0 c hi1n rfl,hK0.thenN (hK1.thenN (Kp.drewN _ _ _))⟩
  ·have hci':¬i1=c:=fun h=>hci h.symm;go_enter func63,ntmps63;go_upto_region 3 with (first
    | (go_at_call 36;refine(HF.out _ hK0).mono ?_;rintro e w1 ⟨rfl,hK1⟩)
    | fail)
   have hb1:=hb0.kept hK1 (fun h=>h);have e1:=hb1.c1;clear d0 d1 d2 d3;go_quiet (fail);go_wp2;go_ret2;rw[Hi.out,HBE.out];have hPe:∀W:World,Kp none' w1 W->Prs B W (.slice a n.ps.length c) n.ps:=fun W hk=>hP.keptN (hK0.thenN (hK1.thenN hk));exact⟨_,_,rfl,(hPe _ (Kp.drewN _ _ _)).take i hfl,(hPe _ (Kp.drewN _ _ _)).dropM i1 hi1n,hK0.thenN (hK1.thenN (Kp.drewN _ _ _))⟩
 | false =>
  rw[ht]at HBH HF;clear hbl;have HBE:Hid (behind n.ps k=i):=by show _=_;rw[HBH.out];rfl
  clear HBH;by_cases hci:c=i
  ·subst hci;go_enter func63,ntmps63;go_upto_region 4 with (first
    | (go_at_call 36;refine(HF.out _ hK0).mono ?_;rintro e w1 ⟨rfl,hK1⟩)
    | fail)
   have hb1:=hb0.kept hK1 (fun h=>h);have e1:=hb1.c1;clear d0 d1 d2 d3;go_quiet (fail);go_wp2;go_ret2;rw[Hi.out,HBE.out];have hPe:∀W:World,Kp none' w1 W->Prs B W (.slice a n.ps.length c) n.ps:=fun W hk=>hP.keptN (hK0.thenN (hK1.thenN hk));exact⟨_,_,rfl,(hPe _ (Kp.drewN _ _ _)).take c hfl,(hPe _ (Kp.drewN _ _ _)).drop0 c hfl rfl,hK0.thenN (hK1.thenN (Kp.drewN _ _ _))⟩
  ·have hci':¬i=c:=fun h=>hci h.symm;go_enter func63,ntmps63;go_upto_region 4 with (first
    | (go_at_call 36;refine(HF.out _ hK0).mono ?_;rintro e w1 ⟨rfl,hK1⟩)
    | fail)
   have hb1:=hb0.kept hK1 (fun h=>h);have e1:=hb1.c1;clear d0 d1 d2 d3;go_quiet (fail);go_wp2;go_ret2;rw[Hi.out,HBE.out];have hPe:∀W:World,Kp none' w1 W->Prs B W (.slice a n.ps.length c) n.ps:=fun W hk=>hP.keptN (hK0.thenN (hK1.thenN hk));exact⟨_,_,rfl,(hPe _ (Kp.drewN _ _ _)).take i hfl,(hPe _ (Kp.drewN _ _ _)).dropM i hfl,hK0.thenN (hK1.thenN (Kp.drewN _ _ _))⟩
theorem Prs.one(w:World)(p:Pr)(g:Nat)(hg:w.heap.size=g):Prs (g+1) (w.alloc (.cells #[.string p.k,.string p.v] 92)) (.slice (some ⟨g,0,none⟩) 1 1) [p]:=by
 subst hg;refine⟨_,_,rfl,by simp,by unfold maxLen;omega,fun i hi=>⟨w.heap.size,0,rfl,by omega,?_⟩⟩;have h:=heap_alloc_new w (.cells #[.string p.k,.string p.v] 92);have hi0:i=0:=by simpa using hi
 subst hi0;constructor
 ·rw[cell_of_row _ w.heap.size (0+0*2) _ 92 (0,0) h];rfl
 ·rw[cell_of_row _ w.heap.size (0+0*2+1) _ 92 (0,0) h];rfl
set_option maxRecDepth 100000 in
theorem OQ(x:Value)(n:Nd)(B:Nat)(k:ByteArray)(w:World)(hN:Nv B w x n)(hp:n.ps.length<=2097152) :
  Calls prog 37 #[x,.string k] w fun e w'=>∃a m c,e=.returned (.agg #[.bool true,.slice a m c,.slice none 0 0,.slice none 0 0])/\OwP w' w.heap.size (.slice a m c) (n.cut k).ps/\Kp none' w w':=by
 have hN':=hN;obtain⟨⟨pv,kv,dv,rfl,hP,hS,hD⟩,hwf⟩:=hN';obtain⟨a,c,rfl,_⟩:=hP;obtain⟨a2,c2,rfl,_⟩:=hS;obtain⟨a3,c3,rfl,_⟩:=hD;have hwp:=hwf.p;obtain⟨A,HA⟩:∃A,Hid (n.ps.take (findN n.ps k)=A):=⟨n.ps.take (findN n.ps k),hide rfl⟩;obtain⟨D,HD⟩:∃D,Hid (n.ps.drop (behind n.ps k)=D):=⟨n.ps.drop (behind n.ps k),hide rfl⟩;have HCUT:Hid (n.cut k=⟨true,[A,D].flatten,[],[]⟩):=by show _=_;unfold Nd.cut;rw[HA.out,HD.out];simp
 have HWL:Hid (∀p∈[A,D].flatten,p.k.size<=maxLen/\p.v.size<=maxLen):=by
  intro p hp;simp only[List.flatten_cons,List.flatten_nil,List.append_nil,List.mem_append]at hp;rcases hp with hp|hp
  ·rw[<-HA.out]at hp;exact hwp p (List.mem_of_mem_take hp)
  ·rw[<-HD.out]at hp;exact hwp p (List.mem_of_mem_drop hp)
 have HLN:Hid ([A,D].flatten.length<=100000000):=by
  show _<=_;simp only[List.flatten_cons,List.flatten_nil,List.append_nil,List.length_append];rw[<-HA.out,<-HD.out,List.length_take,List.length_drop];omega
 have hb0:=(Nb.new w n.leaf (.slice a n.ps.length c) (.slice a2 n.ks.length c2) (.slice a3 n.kd.length c3)).kept (Kp.alloc none' _ (.cells #[.bool false,.slice none 0 0,.slice none 0 0,.slice none 0 0] 35)) (fun h=>h);have hr0:=Nb.new (w.alloc (.cells #[.bool n.leaf,.slice a n.ps.length c,.slice a2 n.ks.length c2,.slice a3 n.kd.length c3] 35)) false (.slice none 0 0) (.slice none 0 0) (.slice none 0 0)
 rw[show (w.alloc (.cells #[.bool n.leaf,.slice a n.ps.length c,.slice a2 n.ks.length c2,.slice a3 n.kd.length c3] 35)).heap.size=w.heap.size+1 by simp]at hr0;have hK0:Kp none' w ((w.alloc (.cells #[.bool n.leaf,.slice a n.ps.length c,.slice a2 n.ks.length c2,.slice a3 n.kd.length c3] 35)).alloc (.cells #[.bool false,.slice none 0 0,.slice none 0 0,.slice none 0 0] 35)):=(Kp.alloc _ _ _).thenN (Kp.alloc _ _ _)
 have HAR:Hid (∀W:World,Kp none' w W->Calls prog 63 #[.agg #[.bool n.leaf,.slice a n.ps.length c,.slice a2 n.ks.length c2,.slice a3 n.kd.length c3],.string k] W fun e w'=>∃a1 c1 a2 c2,e=.returned (.tuple #[.slice a1 A.length c1,.slice a2 D.length c2])/\Prs B w' (.slice a1 A.length c1) A/\Prs B w' (.slice a2 D.length c2) D/\Kp none' W w'):=by
  intro W hk;refine(EX _ n B k W (hN.keptN hk)).mono ?_;rintro e w' ⟨v1,v2,rfl,h1,h2,h3⟩;rw[HA.out]at h1;rw[HD.out]at h2;have h1':=h1;have h2':=h2;obtain⟨b1,e1,rfl,_⟩:=h1';obtain⟨b2,e2,rfl,_⟩:=h2';exact⟨b1,e1,b2,e2,rfl,h1,h2,h3⟩
 rw[HCUT.out];obtain⟨lA,HlA⟩:∃l,Hid (A.length=l):=⟨A.length,hide rfl⟩;obtain⟨lD,HlD⟩:∃l,Hid (D.length=l):=⟨D.length,hide rfl⟩;rw[HlA.out,HlD.out]at HAR;have d0:=hb0.c0;have d1:=hb0.c1;have d2:=hb0.c2;have d3:=hb0.c3;clear hN hwf hwp HA HD;obtain⟨L,HL⟩:∃L,Hid ([A,D].flatten=L):=⟨[A,D].flatten,hide rfl⟩;rw[HL.out]at HWL HLN |-;obtain⟨m,Hm⟩:∃m,Hid (L.length=m):=⟨L.length,hide rfl⟩;go_enter func37,ntmps37;go_upto_region 2 with (first
  | (go_at_call 63;refine(HAR.out _ hK0).mono ?_;rintro e w1 ⟨a4,c4,a5,c5,rfl,hA1,hD1,hK1⟩)
  | fail)
 have hr1:=hr0.kept hK1 (fun h=>h);have HLT:Hid (w.heap.size+1<w1.heap.size):=hr1.lt;have hKp:Kp none' w1 (w1.alloc (.cells #[.slice a4 lA c4,.slice a5 lD c5] 31)):=Kp.alloc _ _ _
 have HLF:Hid (Calls prog 64 #[.slice (some ⟨w1.heap.size,0,none⟩) 2 2] (w1.alloc (.cells #[.slice a4 lA c4,.slice a5 lD c5] 31)) fun e w'=>∃a c,e=.returned (.agg #[.bool true,.slice a m c,.slice none 0 0,.slice none 0 0])/\OwP w' w1.heap.size (.slice a m c) L/\Kp none' w1 w'/\Nb w' (w.heap.size+1) false (.slice none 0 0) (.slice none 0 0) (.slice none 0 0)):=by
  rw[<-HL.out]at HLN;refine(CN _ [.slice a4 lA c4,.slice a5 lD c5] [A,D] (w1.heap.size+1) B _ (BI w1 [.slice a4 lA c4,.slice a5 lD c5] 31 w1.heap.size 2 rfl rfl (by omega)) rfl ?_ HLN.out).mono ?_
  ·intro i h h';match i,h with
   | 0,_=>exact hA1.keptN hKp
   | 1,_=>exact hD1.keptN hKp
  ·rintro e w' ⟨b,e',rfl,hO,hK⟩;rw[HL.out,Hm.out]at *;exact⟨b,e',rfl,hO.mono (by simp),hKp.thenN hK,hr1.kept (hKp.thenN hK) (fun h=>h)⟩
 clear HAR hA1 hD1 hb0 hr0 d0 d1 d2 d3;go_wp2_with (first
  | (go_at_call 64;refine HLF.out.mono ?_;rintro e w2 ⟨a6,c6,rfl,hO2,hK2,hr2⟩;have HPT:=hide (hr2.put true (.slice a6 m c6) (.slice none 0 0) (.slice none 0 0));have hd0:=hr2.c0;have hd1:=hr2.c1;have hd2:=hr2.c2;have hd3:=hr2.c3;have hf0:=hr2.fz 0;have hf1:=hr2.fz 1;have hf2:=hr2.fz 2;have hf3:=hr2.fz 3)
  | fail)
 refine bodyPost_ret (As rfl _ (w.heap.size+1) _ rfl HPT.out.1) rfl ?_;refine⟨_,_,_,rfl,?_,?_⟩
 ·exact(hO2.kept HPT.out.2 (fun z hz hzo=>by have:=(hO2.lt z hz).1;have:=HLT.out;unfold only at hzo;omega)).mono (by have:=HLT.out;omega)
 ·exact(hK0.thenN (hK1.thenN hK2)).trans HPT.out.2 (fun _ _ h=>h) (fun z hz hzo=>by unfold only at hzo;omega)
set_option maxRecDepth 100000 in
theorem Pn(x:Value)(n:Nd)(B:Nat)(k v:ByteArray)(w:World)(hN:Nv B w x n)(hkm:k.size<=maxLen)(hvm:v.size<=maxLen)(hp:n.ps.length<=2097152) :
  Calls prog 33 #[x,.string k,.string v] w fun e w'=>∃a m c,e=.returned (.agg #[.bool true,.slice a m c,.slice none 0 0,.slice none 0 0])/\OwP w' w.heap.size (.slice a m c) (n.put k v).ps/\Kp none' w w':=by
 have hN':=hN;obtain⟨⟨pv,kv,dv,rfl,hP,hS,hD⟩,hwf⟩:=hN';obtain⟨a,c,rfl,_⟩:=hP;obtain⟨a2,c2,rfl,_⟩:=hS;obtain⟨a3,c3,rfl,_⟩:=hD;have hwp:=hwf.p;obtain⟨A,HA⟩:∃A,Hid (n.ps.take (findN n.ps k)=A):=⟨n.ps.take (findN n.ps k),hide rfl⟩;obtain⟨D,HD⟩:∃D,Hid (n.ps.drop (behind n.ps k)=D):=⟨n.ps.drop (behind n.ps k),hide rfl⟩;have HCUT:Hid (n.put k v=⟨true,[A,[⟨k,v⟩],D].flatten,[],[]⟩):=by show _=_;unfold Nd.put;rw[HA.out,HD.out];simp
 have HWL:Hid (∀p∈[A,[⟨k,v⟩],D].flatten,p.k.size<=maxLen/\p.v.size<=maxLen):=by
  intro p hp;simp only[List.flatten_cons,List.flatten_nil,List.append_nil,List.mem_append,List.mem_singleton]at hp;rcases hp with hp|hp|hp
  ·rw[<-HA.out]at hp;exact hwp p (List.mem_of_mem_take hp)
  ·rw[hp];exact⟨hkm,hvm⟩
  ·rw[<-HD.out]at hp;exact hwp p (List.mem_of_mem_drop hp)
 have HLN:Hid ([A,[⟨k,v⟩],D].flatten.length<=100000000):=by
  show _<=_;simp only[List.flatten_cons,List.flatten_nil,List.append_nil,List.length_append,List.length_cons,List.length_nil];rw[<-HA.out,<-HD.out,List.length_take,List.length_drop];omega
 have hb0:=(Nb.new w n.leaf (.slice a n.ps.length c) (.slice a2 n.ks.length c2) (.slice a3 n.kd.length c3)).kept (Kp.alloc none' _ (.cells #[.bool false,.slice none 0 0,.slice none 0 0,.slice none 0 0] 35)) (fun h=>h);have hr0:=Nb.new (w.alloc (.cells #[.bool n.leaf,.slice a n.ps.length c,.slice a2 n.ks.length c2,.slice a3 n.kd.length c3] 35)) false (.slice none 0 0) (.slice none 0 0) (.slice none 0 0)
 rw[show (w.alloc (.cells #[.bool n.leaf,.slice a n.ps.length c,.slice a2 n.ks.length c2,.slice a3 n.kd.length c3] 35)).heap.size=w.heap.size+1 by simp]at hr0;have hK0:Kp none' w ((w.alloc (.cells #[.bool n.leaf,.slice a n.ps.length c,.slice a2 n.ks.length c2,.slice a3 n.kd.length c3] 35)).alloc (.cells #[.bool false,.slice none 0 0,.slice none 0 0,.slice none 0 0] 35)):=(Kp.alloc _ _ _).thenN (Kp.alloc _ _ _)
 have HAR:Hid (∀W:World,Kp none' w W->Calls prog 63 #[.agg #[.bool n.leaf,.slice a n.ps.length c,.slice a2 n.ks.length c2,.slice a3 n.kd.length c3],.string k] W fun e w'=>∃a1 c1 a2 c2,e=.returned (.tuple #[.slice a1 A.length c1,.slice a2 D.length c2])/\Prs B w' (.slice a1 A.length c1) A/\Prs B w' (.slice a2 D.length c2) D/\Kp none' W w'):=by
  intro W hk;refine(EX _ n B k W (hN.keptN hk)).mono ?_;rintro e w' ⟨v1,v2,rfl,h1,h2,h3⟩;rw[HA.out]at h1;rw[HD.out]at h2;have h1':=h1;have h2':=h2;obtain⟨b1,e1,rfl,_⟩:=h1';obtain⟨b2,e2,rfl,_⟩:=h2';exact⟨b1,e1,b2,e2,rfl,h1,h2,h3⟩
 rw[HCUT.out];obtain⟨lA,HlA⟩:∃l,Hid (A.length=l):=⟨A.length,hide rfl⟩;obtain⟨lD,HlD⟩:∃l,Hid (D.length=l):=⟨D.length,hide rfl⟩;rw[HlA.out,HlD.out]at HAR;have d0:=hb0.c0;have d1:=hb0.c1;have d2:=hb0.c2;have d3:=hb0.c3;clear hN hwf hwp HA HD;obtain⟨L,HL⟩:∃L,Hid ([A,[⟨k,v⟩],D].flatten=L):=⟨[A,[⟨k,v⟩],D].flatten,hide rfl⟩;rw[HL.out]at HWL HLN |-;obtain⟨m,Hm⟩:∃m,Hid (L.length=m):=⟨L.length,hide rfl⟩;go_enter func33,ntmps33;go_upto_region 2 with (first
  | (go_at_call 63;refine(HAR.out _ hK0).mono ?_;rintro e w1 ⟨a4,c4,a5,c5,rfl,hA1,hD1,hK1⟩)
  | fail)
 have hr1:=hr0.kept hK1 (fun h=>h);have HLT:Hid (w.heap.size+1<w1.heap.size):=hr1.lt;have hKq:Kp none' w1 (w1.alloc (.cells #[.string k,.string v] 92)):=Kp.alloc _ _ _;have hKp:Kp none' (w1.alloc (.cells #[.string k,.string v] 92)) ((w1.alloc (.cells #[.string k,.string v] 92)).alloc (.cells #[.slice a4 lA c4,.slice (some ⟨w1.heap.size,0,none⟩) 1 1,.slice a5 lD c5] 31)):=Kp.alloc _ _ _;have hsz1:(w1.alloc (.cells #[.string k,.string v] 92)).heap.size=w1.heap.size+1:=by simp
 have hBle:B<=B+w1.heap.size+1:=by omega
 have HLF:Hid (Calls prog 64 #[.slice (some ⟨w1.heap.size+1,0,none⟩) 3 3] ((w1.alloc (.cells #[.string k,.string v] 92)).alloc (.cells #[.slice a4 lA c4,.slice (some ⟨w1.heap.size,0,none⟩) 1 1,.slice a5 lD c5] 31)) fun e w'=>∃a c,e=.returned (.agg #[.bool true,.slice a m c,.slice none 0 0,.slice none 0 0])/\OwP w' w1.heap.size (.slice a m c) L/\Kp none' w1 w'/\Nb w' (w.heap.size+1) false (.slice none 0 0) (.slice none 0 0) (.slice none 0 0)):=by
  rw[<-HL.out]at HLN;refine(CN _ [.slice a4 lA c4,.slice (some ⟨w1.heap.size,0,none⟩) 1 1,.slice a5 lD c5] [A,[⟨k,v⟩],D] (w1.heap.size+1+1) (B+w1.heap.size+1) _ (BI (w1.alloc (.cells #[.string k,.string v] 92)) [.slice a4 lA c4,.slice (some ⟨w1.heap.size,0,none⟩) 1 1,.slice a5 lD c5] 31 (w1.heap.size+1) 3 hsz1 rfl (by omega)) rfl ?_ HLN.out).mono ?_
  ·intro i h h';match i,h with
   | 0,_=>exact(hA1.keptN (hKq.thenN hKp)).mono hBle
   | 1,_=>exact((Prs.one w1 ⟨k,v⟩ w1.heap.size rfl).keptN hKp).mono (by omega)
   | 2,_=>exact(hD1.keptN (hKq.thenN hKp)).mono hBle
  ·rintro e w' ⟨b,e',rfl,hO,hK⟩;rw[HL.out,Hm.out]at *;exact⟨b,e',rfl,hO.mono (by simp;omega),(hKq.thenN hKp).thenN hK,hr1.kept ((hKq.thenN hKp).thenN hK) (fun h=>h)⟩
 clear HAR hA1 hD1 hb0 hr0 d0 d1 d2 d3 hBle;go_wp2_with (first
  | (go_at_call 64;refine HLF.out.mono ?_;rintro e w2 ⟨a6,c6,rfl,hO2,hK2,hr2⟩;have HPT:=hide (hr2.put true (.slice a6 m c6) (.slice none 0 0) (.slice none 0 0));have hd0:=hr2.c0;have hd1:=hr2.c1;have hd2:=hr2.c2;have hd3:=hr2.c3;have hf0:=hr2.fz 0;have hf1:=hr2.fz 1;have hf2:=hr2.fz 2;have hf3:=hr2.fz 3)
  | fail)
 refine bodyPost_ret (As rfl _ (w.heap.size+1) _ rfl HPT.out.1) rfl ?_;refine⟨_,_,_,rfl,?_,?_⟩
 ·exact(hO2.kept HPT.out.2 (fun z hz hzo=>by have:=(hO2.lt z hz).1;have:=HLT.out;unfold only at hzo;omega)).mono (by have:=HLT.out;omega)
 ·exact(hK0.thenN (hK1.thenN hK2)).trans HPT.out.2 (fun _ _ h=>h) (fun z hz hzo=>by unfold only at hzo;omega)
theorem PV{n:Nd}(h:n.wf)(k v:ByteArray)(hkm:k.size<=maxLen)(hvm:v.size<=maxLen):∀p∈(n.put k v).ps,p.k.size<=maxLen/\p.v.size<=maxLen:=by
 intro p hp;simp only[Nd.put,List.mem_append,List.mem_singleton]at hp;rcases hp with (hp|hp)|hp
 ·exact h.p p (List.mem_of_mem_take hp)
 ·rw[hp];exact⟨hkm,hvm⟩
 ·exact h.p p (List.mem_of_mem_drop hp)
theorem PJ{n:Nd}(h:n.wf)(k:ByteArray):∀p∈(n.cut k).ps,p.k.size<=maxLen/\p.v.size<=maxLen:=by
 intro p hp;simp only[Nd.cut,List.mem_append]at hp;rcases hp with hp|hp
 ·exact h.p p (List.mem_of_mem_take hp)
 ·exact h.p p (List.mem_of_mem_drop hp)
set_option maxRecDepth 100000 in
theorem growS(n:Nat)(w:World)(hn:n<=1000000000) :
  Calls prog 218 #[.slice none 0 0,.int .i64 (n:Int)] w fun e w'=>∃v',e=.returned v'/\Ow Value.string 9 w' w.heap.size v' []/\Kp none' w w':=by
 by_cases h0:n=0
 ·subst h0;rw[show ((0:Nat):Int)=0 from rfl];go_enter func218,ntmps218;go_wp2;go_ret;exact⟨_,rfl,Ow.nil _ _ _ _,Kp.refl _ _⟩
 ·obtain⟨c,w1,hr,hO,hK⟩:=Es 32 9 _ 1 16 underlying32 Fd rfl (by omega) (by omega) w n (by omega) hn;have h1:¬(n:Int)<0:=by omega
  have h2:(0:Int)<(n:Int):=by omega
  have h3:wrap64 (n:Int)=(n:Int):=by unfold wrap64;omega
  have HO:=hide hO;clear hO h0;go_enter func218,ntmps218;go_wp2_with (first
   | (at_builtin;refine Ak rfl (.tmp 20) (.tmp 21) 32 3 rfl _ _ rfl rfl (by first|exact hr|(rw[h3];exact hr)) ?_)
   | fail)
  go_ret;exact⟨_,rfl,HO.out,hK⟩
set_option maxRecDepth 100000 in
theorem OO(v:Value)(vs:List Value)(ls:List (List ByteArray))(B B':Nat)(w:World)(hV:Sl (fun x:Value=>x) B w v vs)(hL:vs.length=ls.length)(hI:∀i (h:i<vs.length) (h':i<ls.length),Sl Value.string B' w vs[i] ls[i])(hT:ls.flatten.length<=100000000) :
  Calls prog 205 #[v] w fun e w'=>∃v',e=.returned v'/\Ow Value.string 9 w' w.heap.size v' ls.flatten/\Kp none' w w':=by
 obtain⟨a,c,rfl,hlc,hcm,ha⟩:=hV;unfold maxLen at hcm;have HA:Hid (∀i (h:i<vs.length),∃b off,a=some ⟨b,off,none⟩/\b<B/\w.cell? ⟨b,off+i,none⟩=some (vs[i])):=ha;have HI:=hide hI;have HL:=hide hL;have HG:Hid (∀W:World,∀n:Nat,n<=1000000000->Calls prog 218 #[.slice none 0 0,.int .i64 (n:Int)] W fun e w'=>∃v',e=.returned v'/\Ow Value.string 9 w' W.heap.size v' []/\Kp none' W w'):=fun W n hn=>growS n W hn;obtain⟨m,Hm⟩:∃m,Hid (vs.length=m):=⟨_,rfl⟩;rw[Hm.out]at hlc;clear ha hI hL;rw[Hm.out]
 go_enter func205,ntmps205;go_wp2;go_loopw [3,5,11] (fun t _ u wr=>∃j q:Nat,j<=m/\u=.int .i64 j/\t=.int .i64 (q:Int)/\Hid ((ls.take j).flatten.length=q)/\w=wr) (fun _ _ u _=>m - (intOf u).toNat)
 case atStart=>exact⟨0,0,Nat.zero_le _,rfl,rfl,rfl,rfl⟩
 case round =>
  obtain⟨j,q,hj,rfl,rfl,HQ,rfl⟩:=hrel;by_cases hlt:j<m
  ·have hlv:j<vs.length:=by rw[Hm.out];exact hlt
   have hll:j<ls.length:=by rw[<-HL.out];exact hlv
   obtain⟨b,o,rfl,_,hc⟩:=HA.out j hlv;obtain⟨a',c',e,hx⟩:=HI.out j hlv hll;clear hx;rw[e]at hc;have hlt':(j:Int)<(m:Int):=by omega
   obtain⟨r,HR⟩:∃r:Nat,Hid ((ls.take (j+1)).flatten.length=r):=⟨_,rfl⟩;have HS:Hid (q+ls[j].length=r/\r<=100000000):=by
    have h1:=Bn ls j hll;have h2:=AK ls (j+1);have h3:=congrArg List.length h1;rw[List.length_append,HQ.out,HR.out]at h3;rw[HR.out]at h2;show _/\_;omega
   generalize ls[j].length=d at *;have hw1:wrap64 ((q:Int)+(d:Int))=(r:Int):=by have:=HS.out;unfold wrap64;omega
   have hw2:IntKind.i64.wrap ((q:Int)+(d:Int))=(r:Int):=by have:=HS.out;rw[IntKind.wrap_i64];omega
   have hr0:¬(r:Int)<0:=by omega
   clear HQ e;go_wp2;go_roundw
   case rel=>exact⟨j+1,r,by omega,by go_num,by first|rfl|rw[hw1]|rw[hw2],HR,by first|rfl|trivial⟩
   case measure=>simp[intOf];omega
  ·have hlt':¬(j:Int)<(m:Int):=by omega
   have hjm:j=m:=by omega
   have Hq:Hid (q<=1000000000):=by
    have h1:=AK ls j;rw[HQ.out]at h1;show _<=_;omega
   clear HQ;go_wp2_with (first
    | (go_at_call 218;refine(HG.out _ q Hq.out).mono ?_;rintro e w1 ⟨v1,rfl,hO1,hK1⟩)
    | fail)
   have HO1:=hide hO1;clear hO1 hlt' hjm;go_loopw [6,8,27] (fun t _ u wr=>∃j:Nat,j<=m/\u=.int .i64 j/\Ow Value.string 9 wr w.heap.size t ((ls.take j).flatten)/\Kp none' w wr) (fun _ _ u _=>m - (intOf u).toNat)
   case atStart=>exact⟨0,Nat.zero_le _,rfl,HO1.out,hK1⟩
   case round =>
    obtain⟨j,hj,rfl,hO,hK⟩:=hrel;by_cases hlt:j<m
    ·have hlv:j<vs.length:=by rw[Hm.out];exact hlt
     have hll:j<ls.length:=by rw[<-HL.out];exact hlv
     obtain⟨b,o,rfl,_,hc'⟩:=HA.out j hlv;have hc:=hK.cell hc' (fun h=>h);have hin:=(HI.out j hlv hll).keptN hK;have hlt':(j:Int)<(m:Int):=by omega
     have hb:(ls.take j).flatten.length+ls[j].length<=1000000000:=by
      have h1:=Bn ls j hll;have h2:=AK ls (j+1);have h3:=congrArg List.length h1;rw[List.length_append]at h3;omega
     obtain⟨v2,w2,hq2,hO2,hg2,hv2⟩:=appT _ w.heap.size u6 vs[j] _ ls[j] hO (hin.src (fun _=>rfl) underlying32) hK.size hb;have hk2:Kp none' w w2:=hK.trans (Kp.ofGrown hg2 (S:=fun k=>u6.ownBlock=some k) (fun k hk _=>hk)) (fun _ _ h=>h) (fun k hk he=>absurd hk (by have:=(hO.lt k he).1;omega));have HT2:Hid (Ow Value.string 9 w2 w.heap.size v2 ((ls.take (j+1)).flatten)):=by
      show Ow Value.string 9 _ _ _ _;rw[Bn ls j hll];exact hO2
     obtain⟨a',c',e,_⟩:=hin;rw[e]at hc hq2;clear hb hO2 hc' e;go_wp2_with (first
      | (at_builtin;refine Ak rfl (.tmp 31) (.tmp 32) 32 32 rfl _ _ rfl rfl hq2 ?_)
      | fail)
     go_roundw
     case rel=>exact⟨j+1,by omega,by go_num,HT2.out,hk2⟩
     case measure=>simp[intOf];omega
    ·have hlt':¬(j:Int)<(m:Int):=by omega
     have HF:Hid (Ow Value.string 9 wr w.heap.size u6 ls.flatten):=by
      have e:ls.take j=ls:=List.take_of_length_le (by have:=HL.out;have:=Hm.out;omega);rw[e]at hO;exact hO
     go_wp2;go_ret;exact⟨_,rfl,HF.out,hK⟩
set_option maxRecDepth 100000 in
theorem growI(n:Nat)(w:World)(hn:n<=1000000000) :
  Calls prog 219 #[.slice none 0 0,.int .i64 (n:Int)] w fun e w'=>∃v',e=.returned v'/\Ow (Value.int .i64) 3 w' w.heap.size v' []/\Kp none' w w':=by
 by_cases h0:n=0
 ·subst h0;rw[show ((0:Nat):Int)=0 from rfl];go_enter func219,ntmps219;go_wp2;go_ret;exact⟨_,rfl,Ow.nil _ _ _ _,Kp.refl _ _⟩
 ·obtain⟨c,w1,hr,hO,hK⟩:=Es 33 3 _ 1 8 underlying33 infoI rfl (by omega) (by omega) w n (by omega) hn;have h1:¬(n:Int)<0:=by omega
  have h2:(0:Int)<(n:Int):=by omega
  have h3:wrap64 (n:Int)=(n:Int):=by unfold wrap64;omega
  have HO:=hide hO;clear hO h0;go_enter func219,ntmps219;go_wp2_with (first
   | (at_builtin;refine Ak rfl (.tmp 20) (.tmp 21) 33 3 rfl _ _ rfl rfl (by first|exact hr|(rw[h3];exact hr)) ?_)
   | fail)
  go_ret;exact⟨_,rfl,HO.out,hK⟩
set_option maxRecDepth 100000 in
theorem OM(v:Value)(vs:List Value)(ls:List (List Int))(B B':Nat)(w:World)(hV:Sl (fun x:Value=>x) B w v vs)(hL:vs.length=ls.length)(hI:∀i (h:i<vs.length) (h':i<ls.length),Sl (Value.int .i64) B' w vs[i] ls[i])(hT:ls.flatten.length<=100000000) :
  Calls prog 206 #[v] w fun e w'=>∃v',e=.returned v'/\Ow (Value.int .i64) 3 w' w.heap.size v' ls.flatten/\Kp none' w w':=by
 obtain⟨a,c,rfl,hlc,hcm,ha⟩:=hV;unfold maxLen at hcm;have HA:Hid (∀i (h:i<vs.length),∃b off,a=some ⟨b,off,none⟩/\b<B/\w.cell? ⟨b,off+i,none⟩=some (vs[i])):=ha;have HI:=hide hI;have HL:=hide hL;have HG:Hid (∀W:World,∀n:Nat,n<=1000000000->Calls prog 219 #[.slice none 0 0,.int .i64 (n:Int)] W fun e w'=>∃v',e=.returned v'/\Ow (Value.int .i64) 3 w' W.heap.size v' []/\Kp none' W w'):=fun W n hn=>growI n W hn;obtain⟨m,Hm⟩:∃m,Hid (vs.length=m):=⟨_,rfl⟩;rw[Hm.out]at hlc;clear ha hI hL;rw[Hm.out]
 go_enter func206,ntmps206;go_wp2;go_loopw [3,5,11] (fun t _ u wr=>∃j q:Nat,j<=m/\u=.int .i64 j/\t=.int .i64 (q:Int)/\Hid ((ls.take j).flatten.length=q)/\w=wr) (fun _ _ u _=>m - (intOf u).toNat)
 case atStart=>exact⟨0,0,Nat.zero_le _,rfl,rfl,rfl,rfl⟩
 case round =>
  obtain⟨j,q,hj,rfl,rfl,HQ,rfl⟩:=hrel;by_cases hlt:j<m
  ·have hlv:j<vs.length:=by rw[Hm.out];exact hlt
   have hll:j<ls.length:=by rw[<-HL.out];exact hlv
   obtain⟨b,o,rfl,_,hc⟩:=HA.out j hlv;obtain⟨a',c',e,hx⟩:=HI.out j hlv hll;clear hx;rw[e]at hc;have hlt':(j:Int)<(m:Int):=by omega
   obtain⟨r,HR⟩:∃r:Nat,Hid ((ls.take (j+1)).flatten.length=r):=⟨_,rfl⟩;have HS:Hid (q+ls[j].length=r/\r<=100000000):=by
    have h1:=Bn ls j hll;have h2:=AK ls (j+1);have h3:=congrArg List.length h1;rw[List.length_append,HQ.out,HR.out]at h3;rw[HR.out]at h2;show _/\_;omega
   generalize ls[j].length=d at *;have hw1:wrap64 ((q:Int)+(d:Int))=(r:Int):=by have:=HS.out;unfold wrap64;omega
   have hw2:IntKind.i64.wrap ((q:Int)+(d:Int))=(r:Int):=by have:=HS.out;rw[IntKind.wrap_i64];omega
   have hr0:¬(r:Int)<0:=by omega
   clear HQ e;go_wp2;go_roundw
   case rel=>exact⟨j+1,r,by omega,by go_num,by first|rfl|rw[hw1]|rw[hw2],HR,by first|rfl|trivial⟩
   case measure=>simp[intOf];omega
  ·have hlt':¬(j:Int)<(m:Int):=by omega
   have hjm:j=m:=by omega
   have Hq:Hid (q<=1000000000):=by
    have h1:=AK ls j;rw[HQ.out]at h1;show _<=_;omega
   clear HQ;go_wp2_with (first
    | (go_at_call 219;refine(HG.out _ q Hq.out).mono ?_;rintro e w1 ⟨v1,rfl,hO1,hK1⟩)
    | fail)
   have HO1:=hide hO1;clear hO1 hlt' hjm;go_loopw [6,8,27] (fun t _ u wr=>∃j:Nat,j<=m/\u=.int .i64 j/\Ow (Value.int .i64) 3 wr w.heap.size t ((ls.take j).flatten)/\Kp none' w wr) (fun _ _ u _=>m - (intOf u).toNat)
   case atStart=>exact⟨0,Nat.zero_le _,rfl,HO1.out,hK1⟩
   case round =>
    obtain⟨j,hj,rfl,hO,hK⟩:=hrel;by_cases hlt:j<m
    ·have hlv:j<vs.length:=by rw[Hm.out];exact hlt
     have hll:j<ls.length:=by rw[<-HL.out];exact hlv
     obtain⟨b,o,rfl,_,hc'⟩:=HA.out j hlv;have hc:=hK.cell hc' (fun h=>h);have hin:=(HI.out j hlv hll).keptN hK;have hlt':(j:Int)<(m:Int):=by omega
     have hb:(ls.take j).flatten.length+ls[j].length<=1000000000:=by
      have h1:=Bn ls j hll;have h2:=AK ls (j+1);have h3:=congrArg List.length h1;rw[List.length_append]at h3;omega
     obtain⟨v2,w2,hq2,hO2,hg2,hv2⟩:=appI _ w.heap.size u6 vs[j] _ ls[j] hO (hin.src (fun _=>rfl) underlying33) hK.size hb;have hk2:Kp none' w w2:=hK.trans (Kp.ofGrown hg2 (S:=fun k=>u6.ownBlock=some k) (fun k hk _=>hk)) (fun _ _ h=>h) (fun k hk he=>absurd hk (by have:=(hO.lt k he).1;omega));have HT2:Hid (Ow (Value.int .i64) 3 w2 w.heap.size v2 ((ls.take (j+1)).flatten)):=by
      show Ow (Value.int .i64) 3 _ _ _ _;rw[Bn ls j hll];exact hO2
     obtain⟨a',c',e,_⟩:=hin;rw[e]at hc hq2;clear hb hO2 hc' e;go_wp2_with (first
      | (at_builtin;refine Ak rfl (.tmp 31) (.tmp 32) 33 33 rfl _ _ rfl rfl hq2 ?_)
      | fail)
     go_roundw
     case rel=>exact⟨j+1,by omega,by go_num,HT2.out,hk2⟩
     case measure=>simp[intOf];omega
    ·have hlt':¬(j:Int)<(m:Int):=by omega
     have HF:Hid (Ow (Value.int .i64) 3 wr w.heap.size u6 ls.flatten):=by
      have e:ls.take j=ls:=List.take_of_length_le (by have:=HL.out;have:=Hm.out;omega);rw[e]at hO;exact hO
     go_wp2;go_ret;exact⟨_,rfl,HF.out,hK⟩
set_option maxRecDepth 100000 in
theorem OL(v:Value)(l:List Pr)(B:Nat)(w:World)(hI:Prs B w v l)(hT:l.length<=100000000) :
  Calls prog 201 #[v] w fun e w'=>∃v',e=.returned v'/\OwP w' w.heap.size v' l/\Kp none' w w':=by
 have hI':=hI;obtain⟨a,c,rfl,hlc,hcm,ha⟩:=hI';unfold maxLen at hcm;have HA:=hide ha;clear ha;cases a with
 | none =>
  have hl:l=[]:=by
   cases l with
   | nil=>rfl
   | cons x l=>obtain⟨_,_,e,_⟩:=HA.out 0 (by simp);cases e
  subst hl;have hq:∀W:World,(binOp .eql 31 (.slice none 0 c) (.slice none 0 0)).run prog W=.ok (.bool true) W:=fun W=>Lib.run_eql_slice_nil W _ _ none 0 c 0 0 underlying31;go_enter func201,ntmps201;go_wp2;go_ret;exact⟨_,rfl,OwP.nil _ _,Kp.refl _ _⟩
 | some a =>
  have hq:∀W:World,(binOp .eql 31 (.slice (some a) l.length c) (.slice none 0 0)).run prog W=.ok (.bool false) W:=fun W=>Lib.run_eql_slice_nil W _ _ (some a) l.length c 0 0 underlying31;have hKa:Kp none' w (w.alloc (.cells #[] 92)):=Kp.alloc _ _ _;have hO:OwP (w.alloc (.cells #[] 92)) w.heap.size (.slice (some ⟨w.heap.size,0,none⟩) 0 0) []:=World.ownsRow_made w #[] 0 (Nat.le_refl _) (Nat.zero_le _) (by simp);have hin:=hI.keptN hKa
  obtain⟨v2,w2,hq2,hO2,hg2,hv2⟩:=appP (w.alloc (.cells #[] 92)) w.heap.size _ (.slice (some a) l.length c) [] l hO hin.src hKa.size (by simp;omega);have hk2:Kp none' w w2:=hKa.trans (Kp.ofGrown hg2 (S:=fun k=>k=w.heap.size) (fun k hk _=>by cases hk;rfl)) (fun _ _ h=>h) (fun k hk he=>absurd hk (by omega));rw[List.nil_append]at hO2;have HO2:=hide hO2;clear hO2 hin hO hI;go_enter func201,ntmps201;go_wp2_with (first
   | (at_builtin;refine Ak rfl (.tmp 5) (.tmp 6) 31 31 rfl _ _ rfl rfl hq2 ?_)
   | fail)
  go_ret;exact⟨_,rfl,HO2.out,hk2⟩
set_option maxRecDepth 100000 in
theorem KP(v:Value)(l:List ByteArray)(B:Nat)(w:World)(hI:Sl Value.string B w v l)(hT:l.length<=100000000) :
  Calls prog 202 #[v] w fun e w'=>∃v',e=.returned v'/\Ow Value.string 9 w' w.heap.size v' l/\Kp none' w w':=by
 have hI':=hI;obtain⟨a,c,rfl,hlc,hcm,ha⟩:=hI';unfold maxLen at hcm;have HA:=hide ha;clear ha;cases a with
 | none =>
  have hl:l=[]:=by
   cases l with
   | nil=>rfl
   | cons x l=>obtain⟨_,_,e,_⟩:=HA.out 0 (by simp);cases e
  subst hl;have hq:∀W:World,(binOp .eql 32 (.slice none 0 c) (.slice none 0 0)).run prog W=.ok (.bool true) W:=fun W=>Lib.run_eql_slice_nil W _ _ none 0 c 0 0 underlying32;go_enter func202,ntmps202;go_wp2;go_ret;exact⟨_,rfl,Ow.nil _ _ _ _,Kp.refl _ _⟩
 | some a =>
  have hq:∀W:World,(binOp .eql 32 (.slice (some a) l.length c) (.slice none 0 0)).run prog W=.ok (.bool false) W:=fun W=>Lib.run_eql_slice_nil W _ _ (some a) l.length c 0 0 underlying32;have hKa:Kp none' w (w.alloc (.cells #[] 9)):=Kp.alloc _ _ _;have hO:Ow Value.string 9 (w.alloc (.cells #[] 9)) w.heap.size (.slice (some ⟨w.heap.size,0,none⟩) 0 0) []:=World.ownsRow_made w #[] 0 (Nat.le_refl _) (Nat.zero_le _) (by simp);have hin:=hI.keptN hKa
  obtain⟨v2,w2,hq2,hO2,hg2,hv2⟩:=appT (w.alloc (.cells #[] 9)) w.heap.size _ (.slice (some a) l.length c) [] l hO (hin.src (fun _=>rfl) underlying32) hKa.size (by simp;omega);have hk2:Kp none' w w2:=hKa.trans (Kp.ofGrown hg2 (S:=fun k=>k=w.heap.size) (fun k hk _=>by cases hk;rfl)) (fun _ _ h=>h) (fun k hk he=>absurd hk (by omega));rw[List.nil_append]at hO2;have HO2:=hide hO2;clear hO2 hin hO hI;go_enter func202,ntmps202;go_wp2_with (first
   | (at_builtin;refine Ak rfl (.tmp 5) (.tmp 6) 32 32 rfl _ _ rfl rfl hq2 ?_)
   | fail)
  go_ret;exact⟨_,rfl,HO2.out,hk2⟩
set_option maxRecDepth 100000 in
theorem GM(v:Value)(l:List Int)(B:Nat)(w:World)(hI:Sl (Value.int .i64) B w v l)(hT:l.length<=100000000) :
  Calls prog 132 #[v] w fun e w'=>∃v',e=.returned v'/\Ow (Value.int .i64) 3 w' w.heap.size v' l/\Kp none' w w':=by
 have hI':=hI;obtain⟨a,c,rfl,hlc,hcm,ha⟩:=hI';unfold maxLen at hcm;have HA:=hide ha;clear ha;cases a with
 | none =>
  have hl:l=[]:=by
   cases l with
   | nil=>rfl
   | cons x l=>obtain⟨_,_,e,_⟩:=HA.out 0 (by simp);cases e
  subst hl;have hq:∀W:World,(binOp .eql 33 (.slice none 0 c) (.slice none 0 0)).run prog W=.ok (.bool true) W:=fun W=>Lib.run_eql_slice_nil W _ _ none 0 c 0 0 underlying33;go_enter func132,ntmps132;go_wp2;go_ret;exact⟨_,rfl,Ow.nil _ _ _ _,Kp.refl _ _⟩
 | some a =>
  have hq:∀W:World,(binOp .eql 33 (.slice (some a) l.length c) (.slice none 0 0)).run prog W=.ok (.bool false) W:=fun W=>Lib.run_eql_slice_nil W _ _ (some a) l.length c 0 0 underlying33;have hKa:Kp none' w (w.alloc (.cells #[] 3)):=Kp.alloc _ _ _;have hO:Ow (Value.int .i64) 3 (w.alloc (.cells #[] 3)) w.heap.size (.slice (some ⟨w.heap.size,0,none⟩) 0 0) []:=World.ownsRow_made w #[] 0 (Nat.le_refl _) (Nat.zero_le _) (by simp);have hin:=hI.keptN hKa
  obtain⟨v2,w2,hq2,hO2,hg2,hv2⟩:=appI (w.alloc (.cells #[] 3)) w.heap.size _ (.slice (some a) l.length c) [] l hO (hin.src (fun _=>rfl) underlying33) hKa.size (by simp;omega);have hk2:Kp none' w w2:=hKa.trans (Kp.ofGrown hg2 (S:=fun k=>k=w.heap.size) (fun k hk _=>by cases hk;rfl)) (fun _ _ h=>h) (fun k hk he=>absurd hk (by omega));rw[List.nil_append]at hO2;have HO2:=hide hO2;clear hO2 hin hO hI;go_enter func132,ntmps132;go_wp2_with (first
   | (at_builtin;refine Ak rfl (.tmp 5) (.tmp 6) 33 33 rfl _ _ rfl rfl hq2 ?_)
   | fail)
  go_ret;exact⟨_,rfl,HO2.out,hk2⟩
end Go.Proofs.YtgcgacjhkhjhmaaGreatDoor
