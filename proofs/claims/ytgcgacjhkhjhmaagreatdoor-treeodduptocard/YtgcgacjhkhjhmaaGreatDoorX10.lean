/- Part of the proof: contracts over the turned program. -/
import Derived.Test.YtgcgacjhkhjhmaaGreatDoorX5
import Derived.Test.YtgcgacjhkhjhmaaGreatDoorX9
import Derived.Test.YtgcgacjhkhjhmaaGreatDoorX3
set_option linter.unusedVariables false
set_option maxHeartbeats 4000000
open Go.Proofs.Tryz
namespace Go.Proofs.YtgcgacjhkhjhmaaGreatDoor
open Go Go.RowKit
def pr0:Pr:=⟨⟨#[]⟩,⟨#[]⟩⟩
theorem NR(n:Nat):(madeCells #[Value.string ⟨#[]⟩,.string ⟨#[]⟩] (n*2)).toList=prcs (List.replicate n pr0):=by
 refine List.ext_getElem? fun i=>?_;by_cases h:i<n*2
 ·have e:=ES (List.replicate n pr0) (i / 2) (i%2) (by rw[List.length_replicate];omega) (by omega);rw[show i / 2*2+i%2=i by omega]at e;rw[e,List.getElem_replicate,Array.getElem?_toList];unfold madeCells;rw[Array.getElem?_map,Array.getElem?_range,if_pos h];have hm:i%2=0\/i%2=1:=by omega
  rcases hm with h0|h0<;>simp[h0,Pr.cells,pr0]
 ·rw[List.getElem?_eq_none (by rw[Array.length_toList,size_madeCells];omega),List.getElem?_eq_none (by rw[D2,List.length_replicate];omega)]
theorem NT(w:World)(n:Nat)(hn:n<=1000000):∃wa,(Instr.makeSlice 31 (.int .u64 n) (.int .u64 n)).run prog w=.ok (.slice (some ⟨w.heap.size,0,none⟩) n n) wa/\wa.ownsRow w.heap.size 92 2 (.slice (some ⟨w.heap.size,0,none⟩) n n) n (prcs (List.replicate n pr0))/\Kp none' w wa:=by
 obtain⟨i0,hi,hz0,hz1,hz2⟩:=info_parts JX;obtain⟨wa,hmk,hOa,hga⟩:=run_make_full (P:=prog) w w.heap.size 31 92 i0 _ 2 underlying31 hi hz0 hz1 .u64 .u64 n (by rw[hz2];omega) (by unfold maxLen;omega) (Nat.le_refl _);refine⟨wa,hmk,?_,Kp.ofN hga _⟩;rw[<-NR];exact hOa
theorem Oa(m:Nat):prcs (List.replicate (m+1) pr0)=.string ⟨#[]⟩::.string ⟨#[]⟩::prcs (List.replicate m pr0):=by
 rw[List.replicate_succ];rfl
theorem P8(pre:List Value)(a b x:Value)(r:List Value):(pre++a::b::r).set pre.length x=pre++x::b::r:=by
 rw[List.set_append_right _ _ (Nat.le_refl _),Nat.sub_self,Qb]
theorem P9(pre:List Value)(a b x:Value)(r:List Value):(pre++a::b::r).set (pre.length+1) x=pre++a::x::r:=by
 rw[List.set_append_right _ _ (by omega),show pre.length+1 - pre.length=1 by omega];rfl
theorem Rd.keptK{w w':World}{b:Nat}{s:ByteArray}{e:Int}{S:Nat->Prop}(h:Rd w b s e)(hk:Kp S w w')(hS:¬S b):Rd w' b s e:=by
 unfold Rd;rw[hk.block b h.lt hS];exact h
theorem Ao{w w':World}{base:Nat}{e:TypeId}{sz:Nat}{v:Value}{n:Nat}{cs:List Value}{S:Nat->Prop}(h:w.ownsRow base e sz v n cs)(hk:Kp S w w')(hS:∀k,v.ownBlock=some k->¬S k):w'.ownsRow base e sz v n cs:=by
 rcases h.2 with ⟨rfl,h0⟩|⟨g,cap,cur,rfl,hb,hg,h1,h2,h3,h4⟩
 ·exact⟨h.1,.inl ⟨rfl,h0⟩⟩
 ·have hlt:g<w.heap.size:=(Array.getElem?_eq_some_iff.1 hg).1;exact⟨h.1,.inr ⟨g,cap,cur,rfl,hb,by rw[hk.block g hlt (hS g rfl)];exact hg,h1,h2,h3,h4⟩⟩
theorem AO{w:World}{base g n cap:Nat}{e:TypeId}{sz:Nat}{cs:List Value}(h:w.ownsRow base e sz (.slice (some ⟨g,0,none⟩) n cap) n cs)(j:Nat)(v:Value)(hj:cs[j]?=some v):w.cell? ⟨g,j,none⟩=some v/\w.frozen? ⟨g,j,none⟩=false:=by
 have hc:=World.ownsRow.cells h (g:=g) rfl j v hj;rw[Ar,Nat.zero_add]at hc;refine⟨hc,?_⟩;rcases h.2 with ⟨h1,_⟩|⟨g',cap',cur,h1,_,hg,_⟩
 ·cases h1
 ·cases h1
  unfold World.frozen?;rw[show w.heap[(⟨g,j,none⟩:Addr).block]?=_ from hg];simp
theorem Aj{w:World}{ops:Array Oper}{rest:List Oper}{o:Oper}{a:Act}{Q:Exit->Act->World->Prop}(hgd:o.guard=none)(hd:o.dst=none)(p x:Operand)(ho:o.op=.store 35 p x)(g:Nat)(hp:a.eval p=.pointer (some ⟨g,0,none⟩)){l l':Bool}{pv kv dv:Value}{a1 a2 a3:Option Addr}{n1 c1 n2 c2 n3 c3:Nat}
  (hx:a.eval x=.agg #[.bool l',.slice a1 n1 c1,.slice a2 n2 c2,.slice a3 n3 c3]) (hN:Nb w g l pv kv dv)
  (h:∀W',Nb W' g l' (.slice a1 n1 c1) (.slice a2 n2 c2) (.slice a3 n3 c3)->Kp (only g) w W'->wpList prog ops Q rest a W'):wpList prog ops Q (o::rest) a w:=by
 refine wpList_plain hgd fun K hK=>?_;have:=Ah (ops:=#[]) (K:=K) (Q:=Q) (E:=True) hgd hd p x ho g hp hx hN (fun W' h1 h2=>hK _ _ (h W' h1 h2));have hw:Region.wanted o (yielded #[] a.tmps)=true:=by simp[Region.wanted,hgd]
 rw[if_pos hw]at this;exact this
theorem Fa(r:Rst)(m:Int):(gStr r m).size<=maxLen:=by have:=LU r m;unfold maxLen;omega
set_option maxRecDepth 100000 in
theorem Hu(b:Nat)(c:UInt8)(l:List UInt8)(w:World)(h:Rd w b (mkB (c::l)) 0)(hl:l.length<=1000) :
  Calls prog 161 #[.pointer (some ⟨b,0,none⟩)] w fun e w'=>∃a m q,e=.returned (.agg #[.bool true,.slice a m q,.slice none 0 0,.slice none 0 0])/\OwP w' w.heap.size (.slice a m q) (ldP (mkB l,0) c.toNat)/\Rd w' b (ldS (mkB l,0) c.toNat).1 (ldS (mkB l,0) c.toNat).2/\Kp (only b) w w':=by
 have hK0:Kp none' w (w.alloc (.cells #[.bool false,.slice none 0 0,.slice none 0 0,.slice none 0 0] 35)):=Kp.alloc _ _ _;have n2:=Nb.new w false (.slice none 0 0) (.slice none 0 0) (.slice none 0 0);have hR0:=h.keptK hK0 (fun h=>h);have hbl:=h.lt;obtain⟨N,HN⟩:∃N,Hid (c.toNat=N):=⟨_,rfl⟩;have HN256:Hid (N<256):=by rw[<-HN.out];exact UInt8.toNat_lt c
 obtain⟨r,Hr⟩:∃r:Rst,Hid ((mkB l,0)=r):=⟨(mkB l,0),hide rfl⟩;have HSZ:Hid (r.1.size<=1000):=by rw[<-Hr.out];show (mkB l).size<=_;rw[AB];exact hl
 have HNum:Hid (∀W:World,Rd W b (mkB (c::l)) 0->Calls prog 105 #[.pointer (some ⟨b,0,none⟩),.int .i64 1] W fun y w'=>y=.returned (.int .u64 (N:Int))/\Rd w' b r.1 r.2/\Kp (only b) W w'):=by
  intro W hW;refine(Dt b c l W hW (by unfold maxLen;simp;omega)).mono ?_;rintro y w' ⟨rfl,h1,h2⟩;refine⟨by rw[HN.out],?_,Kp.ofGrown h2 (fun k hk _=>by cases hk;rfl)⟩;rw[<-Hr.out];exact h1
 rw[HN.out,Hr.out];clear h hl;go_enter func161,ntmps161;go_upto_region 1 with fail;generalize w.alloc (.cells #[.bool false,.slice none 0 0,.slice none 0 0,.slice none 0 0] 35)=w0 at *;have HLT:Hid (w.heap.size<w0.heap.size):=n2.lt
 have HMK:Hid (∀W:World,∃wa,(Instr.makeSlice 31 (.int .u64 (N:Int)) (.int .u64 (N:Int))).run prog W=.ok (.slice (some ⟨W.heap.size,0,none⟩) N N) wa/\wa.ownsRow W.heap.size 92 2 (.slice (some ⟨W.heap.size,0,none⟩) N N) N (prcs (List.replicate N pr0))/\Kp none' W wa):=fun W=>NT W N (by have:=HN256.out;omega);go_upto_region 2 with (first
  | (go_at_call 105;refine(HNum.out _ hR0).mono ?_;rintro e w1 ⟨rfl,hR1,hk1⟩;obtain⟨wa,hmk,hO,hka⟩:=HMK.out w1)
  | (refine By rfl (.tmp 6) (.tmp 6) 31 rfl _ _ rfl rfl hmk ?_)
  | fail)
 have hRa:=hR1.keptK hka (fun h=>h);have na:=(n2.kept hk1 (fun e=>by unfold only at e;omega)).kept hka (fun h=>h);obtain⟨g,Hg⟩:∃g,Hid (w1.heap.size=g):=⟨_,rfl⟩;rw[Hg.out]at hO |-;have HGb:Hid (b<g/\w.heap.size<g):=by have:=hk1.size;have:=Hg.out;have:=HLT.out;show _/\_;omega
 have hKa:Kp (only b) w wa:=(hK0.nThen hk1).thenN hka;clear hmk hR1 HNum HMK n2 hR0 hk1 hka;go_wp2;go_loopw [4,10] (fun _ t wr=>∃j:Nat,j<=N/\t=.int .i64 j/\wr.ownsRow g 92 2 (.slice (some ⟨g,0,none⟩) N N) N (prcs (ldP r j)++prcs (List.replicate (N - j) pr0))/\Rd wr b (ldS r j).1 (ldS r j).2/\Kp (fun k=>k=b\/k=g) wa wr) (fun _ t _=>N - (intOf t).toNat)
 case atStart=>exact⟨0,Nat.zero_le _,rfl,hO,hRa,Kp.refl _ _⟩
 case round =>
  obtain⟨j,hj,rfl,hO,hR,hK⟩:=hrel;by_cases hlt:j<N
  ·obtain⟨m,hm⟩:∃m,N - j=m+1:=⟨N - j - 1,by omega⟩;have Hm:Hid (N - (j+1)=m):=by show _=_;omega
   rw[hm,Oa]at hO;have hpl:(prcs (ldP r j)).length=j*2:=by rw[D2,G2]
   have hlt':(j:Int)<(N:Int):=by omega
   have hN256:N<256:=HN256.out;obtain⟨s,Hs⟩:∃s,Hid (ldS r j=s):=⟨_,rfl⟩;have HSs:Hid (s.1.size<=maxLen):=by rw[<-Hs.out];have:=Fk r j;have:=HSZ.out;show _<=_;unfold maxLen;omega
   rw[Hs.out]at hR;have HStr:Hid (∀W:World,Rd W b s.1 s.2->Calls prog 193 #[.pointer (some ⟨b,0,none⟩),.int .i64 32] W fun y w'=>y=.returned (.string (gStr s 32))/\Rd w' b (sStr s 32).1 (sStr s 32).2/\Kp (only b) W w'):=by
    intro W hW;refine(FG b s.1 s.2 32 W hW HSs.out).mono ?_;rintro y w' ⟨rfl,h1,h2⟩;exact⟨rfl,h1,Kp.ofGrown h2 (fun k hk _=>by cases hk;rfl)⟩
   have HStr2:Hid (∀W:World,Rd W b (sStr s 32).1 (sStr s 32).2->Calls prog 193 #[.pointer (some ⟨b,0,none⟩),.int .i64 40] W fun y w'=>y=.returned (.string (gStr (sStr s 32) 40))/\Rd w' b (sStr (sStr s 32) 40).1 (sStr (sStr s 32) 40).2/\Kp (only b) W w'):=by
    intro W hW;refine(FG b _ _ 40 W hW (Nat.le_trans (Cp _ _ _) HSs.out)).mono ?_;rintro y w' ⟨rfl,h1,h2⟩;exact⟨rfl,h1,Kp.ofGrown h2 (fun k hk _=>by cases hk;rfl)⟩
   have HSn:Hid (ldS r (j+1)=sStr (sStr s 32) 40/\ldP r (j+1)=ldP r j++[⟨gStr s 32,gStr (sStr s 32) 40⟩]):=by
    refine⟨?_,?_⟩
    ·show sStr (sStr (ldS r j) 32) 40=_;rw[Hs.out]
    ·show ldP r j++[⟨gStr (ldS r j) 32,gStr (sStr (ldS r j) 32) 40⟩]=_;rw[Hs.out]
   obtain⟨K1,HK1⟩:∃q,Hid (gStr s 32=q):=⟨_,rfl⟩;obtain⟨V1,HV1⟩:∃q,Hid (gStr (sStr s 32) 40=q):=⟨_,rfl⟩;obtain⟨s1,Hs1⟩:∃q,Hid (sStr s 32=q):=⟨_,rfl⟩;rw[Hs1.out]at HStr HStr2 HSn HV1;obtain⟨s2,Hs2⟩:∃q,Hid (sStr s1 40=q):=⟨_,rfl⟩;rw[HK1.out]at HStr HSn;rw[HV1.out,Hs2.out]at HStr2 HSn;obtain⟨j2,HJ2⟩:∃q,Hid (j*2=q):=⟨_,rfl⟩
   have HAF:Hid (∀W:World,Kp (only b) wr W->W.ownsRow g 92 2 (.slice (some ⟨g,0,none⟩) N N) N (prcs (ldP r j)++.string ⟨#[]⟩::.string ⟨#[]⟩::prcs (List.replicate m pr0))/\W.cell? ⟨g,j*2,none⟩=some (.string ⟨#[]⟩)/\W.frozen? ⟨g,j*2,none⟩=false):=by
    intro W hk;have hO3:=Ao hO hk (fun k hk e=>by have hg:g=k:=Option.some.inj hk;unfold only at e;have:=HGb.out;omega);have hc:=AO hO3 (j*2) (.string ⟨#[]⟩) (by rw[List.getElem?_append_right (by omega),hpl,Nat.sub_self];rfl);exact⟨hO3,hc.1,hc.2⟩
   have HBF:Hid (∀W:World,W.ownsRow g 92 2 (.slice (some ⟨g,0,none⟩) N N) N (prcs (ldP r j)++.string ⟨#[]⟩::.string ⟨#[]⟩::prcs (List.replicate m pr0))->(W.setCell ⟨g,j*2,none⟩ (.string K1)).ownsRow g 92 2 (.slice (some ⟨g,0,none⟩) N N) N (prcs (ldP r j)++.string K1::.string ⟨#[]⟩::prcs (List.replicate m pr0))/\Kp (only g) W (W.setCell ⟨g,j*2,none⟩ (.string K1))):=by
    intro W hO;have h1:=World.ownsRow.stored (g:=g) (cap:=N) hO (j*2) (.string K1);have e1:=P8 (prcs (ldP r j)) (.string ⟨#[]⟩) (.string ⟨#[]⟩) (.string K1) (prcs (List.replicate m pr0));rw[hpl]at e1;rw[e1]at h1;exact⟨h1.1,Kp.ofGrown h1.2 (fun k hk _=>by cases hk;rfl)⟩
   have HCF:Hid (∀W:World,W.ownsRow g 92 2 (.slice (some ⟨g,0,none⟩) N N) N (prcs (ldP r j)++.string K1::.string ⟨#[]⟩::prcs (List.replicate m pr0))->W.cell? ⟨g,j*2+1,none⟩=some (.string ⟨#[]⟩)/\W.frozen? ⟨g,j*2+1,none⟩=false/\(W.setCell ⟨g,j*2+1,none⟩ (.string V1)).ownsRow g 92 2 (.slice (some ⟨g,0,none⟩) N N) N (prcs (ldP r j)++.string K1::.string V1::prcs (List.replicate m pr0))/\Kp (only g) W (W.setCell ⟨g,j*2+1,none⟩ (.string V1))):=by
    intro W hO;have hc:=AO hO (j*2+1) (.string ⟨#[]⟩) (by rw[List.getElem?_append_right (by omega),hpl,show j*2+1 - j*2=1 by omega];rfl);have h1:=World.ownsRow.stored (g:=g) (cap:=N) hO (j*2+1) (.string V1);have e1:=P9 (prcs (ldP r j)) (.string K1) (.string ⟨#[]⟩) (.string V1) (prcs (List.replicate m pr0));rw[hpl]at e1;rw[e1]at h1;exact⟨hc.1,hc.2,h1.1,Kp.ofGrown h1.2 (fun k hk _=>by cases hk;rfl)⟩
   have HGE:Hid (prcs (ldP r (j+1))++prcs (List.replicate (N - (j+1)) pr0)=prcs (ldP r j)++.string K1::.string V1::prcs (List.replicate m pr0)):=by
    show _=_;rw[Hm.out,HSn.out.2,EA,List.append_assoc];rfl
   clear hO hm hpl;go_upto_region 6 with (first
    | (go_at_call 193;refine(HStr.out _ hR).mono ?_;rintro e w3 ⟨rfl,hR3,hk3⟩;obtain⟨hO3,hc3a,hc3b⟩:=HAF.out w3 hk3)
    | fail)
   obtain⟨hO4,hk4⟩:=HBF.out w3 hO3;have hR4:=hR3.keptK hk4 (fun e=>by unfold only at e;have:=HGb.out;omega);generalize w3.setCell ⟨g,j*2,none⟩ (.string K1)=w4 at *;clear hc3a hc3b hO3 hR3 HAF HBF;go_wp2_with (first
    | (go_at_call 193;refine(HStr2.out _ hR4).mono ?_;rintro e w5 ⟨rfl,hR5,hk5⟩;have hO5:=Ao hO4 hk5 (fun k hk e=>by have hg:g=k:=Option.some.inj hk;unfold only at e;have:=HGb.out;omega);obtain⟨hc5a,hc5b,hO6,hk6⟩:=HCF.out w5 hO5)
    | fail)
   have hR6:=hR5.keptK hk6 (fun e=>by unfold only at e;have:=HGb.out;omega);go_roundw
   case rel =>
    refine⟨j+1,by omega,by go_num,by rw[HGE.out];exact hO6,by rw[HSn.out.1];exact hR6,?_⟩;exact(((hK.then (hk3.mono (fun _ _ h=>.inl h))).then (hk4.mono (fun _ _ h=>.inr h))).then (hk5.mono (fun _ _ h=>.inl h))).then (hk6.mono (fun _ _ h=>.inr h))
   case measure=>simp[intOf];omega
  ·have hlt':¬(j:Int)<(N:Int):=by omega
   have hje:j=N:=by omega
   subst hje;rw[Nat.sub_self]at hO;have hOP:OwP wr g (.slice (some ⟨g,0,none⟩) j j) (ldP r j):=by
    unfold OwP;rw[G2];simpa[prcs]using hO
   have nr:=na.kept hK (fun e=>by have:=HGb.out;omega);go_wp2_with (first
    | (refine Aj rfl rfl (.tmp 2) (.tmp 27) rfl w.heap.size rfl rfl nr ?_;clear nr;intro w7 nr hk7)
    | fail)
   refine bodyPost_ret (As rfl _ w.heap.size _ rfl nr) rfl ?_;refine⟨_,_,_,rfl,(hOP.kept hk7 (fun z hz e=>by have hg:g=z:=Option.some.inj hz;unfold only at e;have:=HGb.out;omega)).mono (by have:=HGb.out;omega),hR.keptK hk7 (fun e=>by unfold only at e;omega),?_⟩;exact(hKa.trans hK (fun _ _ h=>h) (fun k hk h=>by rcases h with h|h;exact h;exact absurd hk (by have:=HGb.out;omega))).trans hk7 (fun _ _ h=>h) (fun k hk e=>absurd hk (by unfold only at e;omega))
theorem IL{α:Type}(f:α->Value)(z:α)(t e:TypeId)(by_:Nat)(ht:prog.underlying t=some (.slice e))(hinfo:(prog.info? e).map (fun i=>(i.zero,i.size,i.bytes))=some (some (f z),1,by_))(hby:by_<=64)(hz:(f z).cells=#[f z])(w:World)(n:Nat)(hn:n<=1000000):∃wa,(Instr.makeSlice t (.int .i64 n) (.int .i64 n)).run prog w=.ok (.slice (some ⟨w.heap.size,0,none⟩) n n) wa/\Ow f e wa w.heap.size (.slice (some ⟨w.heap.size,0,none⟩) n n) (List.replicate n z)/\Kp none' w wa:=by
 obtain⟨i0,hi,hz0,hz1,hz2⟩:=info_parts hinfo;obtain⟨wa,hmk,hOa,hga⟩:=run_make_full (P:=prog) w w.heap.size t e i0 _ 1 ht hi hz0 hz1 .i64 .i64 n (by
  rw[hz2];have:by_*n<=64*1000000:=Nat.mul_le_mul hby hn;omega) (by unfold maxLen;omega) (Nat.le_refl _)
 refine⟨wa,hmk,?_,Kp.ofN hga _⟩;have e1:(madeCells (f z).cells (n*1)).toList=(List.replicate n z).map f:=by
  rw[hz,toList_madeCells_one];simp
 unfold Ow;rw[List.length_replicate,<-e1];exact hOa
theorem AV{P:Program}{w:World}{ops:Array Oper}{o:Oper}{a:Act}{K:Act->World->Prop}{Q:Exit->Act->World->Prop}{E:Prop}{d:Nat}(hgd:o.guard=none)(hd:o.dst=some d)(l:Operand)(t:TypeId)(ho:o.op=.makeSlice t l l)
  (v:Value) (hl:a.eval l=v) {v':Value} {w':World} (hr:(Instr.makeSlice t v v).run P w=.ok v' w') (h:K (a.put (some d) v') w'):if Region.wanted o (yielded ops a.tmps)=true then Oper.wp P o a w K Q else E:=by
 have hw:Region.wanted o (yielded ops a.tmps)=true:=by simp[Region.wanted,hgd]
 rw[if_pos hw];unfold Oper.wp execOp;simp only[ho,Sem.run_bind,Sem.run_pure,Result.andThen_ok,hl,hr];rw[<-hd]at h;exact h
theorem Ow.isn{α:Type}{f:α->Value}{e:TypeId}{w:World}{base g n cap:Nat}{l:List α}(h:Ow f e w base (.slice (some ⟨g,0,none⟩) n cap) l):n=l.length:=by
 rcases h.2 with ⟨h1,_⟩|⟨g',cap',cur,h1,_⟩
 ·cases h1
 ·cases h1;rfl
theorem Ow.cellA{α:Type}{f:α->Value}{e:TypeId}{w:World}{base g n cap:Nat}{l:List α}(h:Ow f e w base (.slice (some ⟨g,0,none⟩) n cap) l)(j:Nat)(hj:j<l.length):w.cell? ⟨g,j,none⟩=some (f l[j])/\w.frozen? ⟨g,j,none⟩=false:=by
 have hn:=h.isn;subst hn;exact AO (e:=e) (sz:=1) h j (f l[j]) (by simp[hj])
theorem Ow.lt1{α:Type}{f:α->Value}{e:TypeId}{w:World}{base g n cap:Nat}{l:List α}(h:Ow f e w base (.slice (some ⟨g,0,none⟩) n cap) l):base<=g/\g<w.heap.size:=h.lt g rfl
set_option maxRecDepth 100000 in
theorem De{w:World}{ops:Array Oper}{o:Oper}{a:Act}{K:Act->World->Prop}{Q:Exit->Act->World->Prop}{E:Prop}(hgd:o.guard=none)(hd:o.dst=none)(p x:Operand)(ho:o.op=.store 3 p x)(g j:Nat)(hp:a.eval p=.pointer (some ⟨g,j,none⟩))(z:Int)(hx:a.eval x=.int .i64 z){n cap base:Nat}{l:List Int}
  (hO:Ow (Value.int .i64) 3 w base (.slice (some ⟨g,0,none⟩) n cap) l) (hj:j<l.length)
  (h:∀W',Ow (Value.int .i64) 3 W' base (.slice (some ⟨g,0,none⟩) n cap) (l.set j z)->Kp (only g) w W'->K a W') :
  if Region.wanted o (yielded ops a.tmps)=true then Oper.wp prog o a w K Q else E:=by
 have hw:Region.wanted o (yielded ops a.tmps)=true:=by simp[Region.wanted,hgd]
 rw[if_pos hw];have hs:=hO.stored j z;have h1:=h _ hs.1 (Kp.ofGrown hs.2 (fun k hk _=>by cases hk;rfl));obtain⟨hc,hf⟩:=hO.cellA j hj;clear h hs hO;obtain⟨dst,op,type,pos,after,guard⟩:=o;dsimp only at hgd hd ho;subst hgd hd ho;unfold Oper.wp execOp;dsimp only;simp only[hp,hx];go_simp;first|exact h1|(simp only[Act.put]at h1 |-;exact h1)
set_option maxRecDepth 100000 in
theorem FW{w:World}{ops:Array Oper}{o:Oper}{a:Act}{K:Act->World->Prop}{Q:Exit->Act->World->Prop}{E:Prop}(hgd:o.guard=none)(hd:o.dst=none)(p x:Operand)(ho:o.op=.store 9 p x)(g j:Nat)(hp:a.eval p=.pointer (some ⟨g,j,none⟩))(z:ByteArray)(hx:a.eval x=.string z){n cap base:Nat}{l:List ByteArray}
  (hO:Ow Value.string 9 w base (.slice (some ⟨g,0,none⟩) n cap) l) (hj:j<l.length)
  (h:∀W',Ow Value.string 9 W' base (.slice (some ⟨g,0,none⟩) n cap) (l.set j z)->Kp (only g) w W'->K a W') :
  if Region.wanted o (yielded ops a.tmps)=true then Oper.wp prog o a w K Q else E:=by
 have hw:Region.wanted o (yielded ops a.tmps)=true:=by simp[Region.wanted,hgd]
 rw[if_pos hw];have hs:=hO.stored j z;have h1:=h _ hs.1 (Kp.ofGrown hs.2 (fun k hk _=>by cases hk;rfl));obtain⟨hc,hf⟩:=hO.cellA j hj;clear h hs hO;obtain⟨dst,op,type,pos,after,guard⟩:=o;dsimp only at hgd hd ho;subst hgd hd ho;unfold Oper.wp execOp;dsimp only;simp only[hp,hx];go_simp;first|exact h1|(simp only[Act.put]at h1 |-;exact h1)
def Tight(kv dv:Value):Prop:=∃g n g' n',kv=.slice (some ⟨g,0,none⟩) n n/\dv=.slice (some ⟨g',0,none⟩) n' n'/\g≠g'
theorem Gz{α:Type}(pre:List α)(z:α)(m:Nat)(x:α):(pre++List.replicate (m+1) z).set pre.length x=(pre++[x])++List.replicate m z:=by
 rw[List.set_append_right _ _ (Nat.le_refl _),Nat.sub_self,List.replicate_succ,Qb,List.append_assoc];rfl
set_option maxRecDepth 100000 in
theorem FX(b:Nat)(c:UInt8)(l:List UInt8)(w:World)(h:Rd w b (mkB (c::l)) 0)(hl:l.length<=1000) :
  Calls prog 162 #[.pointer (some ⟨b,0,none⟩)] w fun e w'=>∃a m q a' m' q',e=.returned (.agg #[.bool false,.slice none 0 0,.slice a m q,.slice a' m' q'])/\Ow Value.string 9 w' w.heap.size (.slice a m q) (ndK (sNum (mkB l,0) 2) c.toNat)/\Ow (Value.int .i64) 3 w' w.heap.size (.slice a' m' q') ((gNum (mkB l,0) 2:Int)::ndD (sNum (mkB l,0) 2) c.toNat)/\Tight (.slice a m q) (.slice a' m' q')/\Rd w' b (ndS (sNum (mkB l,0) 2) c.toNat).1 (ndS (sNum (mkB l,0) 2) c.toNat).2/\Kp (only b) w w':=by
 have hK0:Kp none' w (w.alloc (.cells #[.bool false,.slice none 0 0,.slice none 0 0,.slice none 0 0] 35)):=Kp.alloc _ _ _;have n2:=Nb.new w false (.slice none 0 0) (.slice none 0 0) (.slice none 0 0);have hR0:=h.keptK hK0 (fun h=>h);have hbl:=h.lt;obtain⟨N,HN⟩:∃N,Hid (c.toNat=N):=⟨_,rfl⟩;have HN256:Hid (N<256):=by rw[<-HN.out];exact UInt8.toNat_lt c
 obtain⟨r,Hr⟩:∃r:Rst,Hid ((mkB l,0)=r):=⟨(mkB l,0),hide rfl⟩;have HSZ:Hid (r.1.size<=1000):=by rw[<-Hr.out];show (mkB l).size<=_;rw[AB];exact hl
 have HNum:Hid (∀W:World,Rd W b (mkB (c::l)) 0->Calls prog 105 #[.pointer (some ⟨b,0,none⟩),.int .i64 1] W fun y w'=>y=.returned (.int .u64 (N:Int))/\Rd w' b r.1 r.2/\Kp (only b) W w'):=by
  intro W hW;refine(Dt b c l W hW (by unfold maxLen;simp;omega)).mono ?_;rintro y w' ⟨rfl,h1,h2⟩;refine⟨by rw[HN.out],?_,Kp.ofGrown h2 (fun k hk _=>by cases hk;rfl)⟩;rw[<-Hr.out];exact h1
 rw[HN.out,Hr.out];obtain⟨d0,HD⟩:∃q,Hid (gNum r 2=q):=⟨_,rfl⟩;obtain⟨r1,Hr1⟩:∃q,Hid (sNum r 2=q):=⟨_,rfl⟩;rw[HD.out,Hr1.out];clear h hl;go_enter func162,ntmps162;go_upto_region 1 with fail;generalize w.alloc (.cells #[.bool false,.slice none 0 0,.slice none 0 0,.slice none 0 0] 35)=w0 at *;have HLT0:Hid (w.heap.size<w0.heap.size):=n2.lt;have hN256:N<256:=HN256.out;go_upto_region 2 with (first
  | (go_at_call 105;refine(HNum.out _ hR0).mono ?_;rintro e w1 ⟨rfl,hR,hk1⟩)
  | fail)
 clear hR0 HNum;replace n2:=n2.kept hk1 (fun e=>by unfold only at e;omega);have HLT:Hid (b<w.heap.size/\w.heap.size<w1.heap.size):=by have:=hk1.size;have:=HLT0.out;show _/\_;omega
 have hKa:Kp (only b) w w1:=hK0.nThen hk1;obtain⟨M,HM⟩:∃M,Hid (1+N=M):=⟨_,rfl⟩;have HMS:Hid (∀W:World,∃wa,(Instr.makeSlice 32 (.int .i64 (N:Int)) (.int .i64 (N:Int))).run prog W=.ok (.slice (some ⟨W.heap.size,0,none⟩) N N) wa/\Ow Value.string 9 wa W.heap.size (.slice (some ⟨W.heap.size,0,none⟩) N N) (List.replicate N ⟨#[]⟩)/\Kp none' W wa):=fun W=>IL Value.string ⟨#[]⟩ 32 9 16 underlying32 Fd (by omega) rfl W N (by have:=HN256.out;omega)
 have HMI:Hid (∀W:World,∃wa,(Instr.makeSlice 33 (.int .i64 (M:Int)) (.int .i64 (M:Int))).run prog W=.ok (.slice (some ⟨W.heap.size,0,none⟩) M M) wa/\Ow (Value.int .i64) 3 wa W.heap.size (.slice (some ⟨W.heap.size,0,none⟩) M M) (List.replicate M 0)/\Kp none' W wa):=fun W=>IL (Value.int .i64) 0 33 3 8 underlying33 infoI (by omega) rfl W M (by have:=HN256.out;have:=HM.out;omega);have hMw:IntKind.i64.wrap (1+(N:Int))=(M:Int):=by rw[<-HM.out,IntKind.wrap_i64];omega
 replace n2:=n2.kept (Kp.drew none' w1) (fun h=>h);replace hR:=hR.keptK (Kp.drew none' w1) (fun h=>h)
 go_cut [4] from 9 to 42 (fun t4 W=>∃g4 gS gI,t4=.pointer (some ⟨g4,0,none⟩)/\Nb W g4 false (.slice none 0 0) (.slice (some ⟨gS,0,none⟩) N N) (.slice (some ⟨gI,0,none⟩) M M)/\Nb W w.heap.size false (.slice none 0 0) (.slice none 0 0) (.slice none 0 0)/\Ow Value.string 9 W w1.heap.size (.slice (some ⟨gS,0,none⟩) N N) (List.replicate N ⟨#[]⟩)/\Ow (Value.int .i64) 3 W w1.heap.size (.slice (some ⟨gI,0,none⟩) M M) (List.replicate M 0)/\Rd W b r.1 r.2/\g4≠gS/\g4≠gI/\gS≠gI/\w1.heap.size<=g4/\Kp none' w1 W)
 case rest =>
  obtain⟨g4,gS,gI,rfl,n4,n2,oS,oI,hR,hn4S,hn4I,hSI,hb4,hKc⟩:=hcut;have HBN:Hid (b<w.heap.size/\w.heap.size<w1.heap.size/\w1.heap.size<=g4):=⟨HLT.out.1,HLT.out.2,hb4⟩;have HGE:Hid (w1.heap.size<=gS/\w1.heap.size<=gI/\w1.heap.size<=g4):=⟨oS.lt1.1,oI.lt1.1,hb4⟩;have HKA:Hid (Kp (only b) w wc):=hKa.thenN hKc;have HSZ1:Hid (r1.1.size<=1000):=by rw[<-Hr1.out];exact Nat.le_trans (Dl _ _ _) HSZ.out
  have hd0:d0<65536:=by rw[<-HD.out];exact EL _
  have hdw:IntKind.i64.wrap (d0:Int)=(d0:Int):=by rw[IntKind.wrap_i64];omega
  have HNum2:Hid (∀W:World,Rd W b r.1 r.2->Calls prog 105 #[.pointer (some ⟨b,0,none⟩),.int .i64 2] W fun y w'=>y=.returned (.int .u64 (d0:Int))/\Rd w' b r1.1 r1.2/\Kp (only b) W w'):=by
   intro W hW;refine(FF b r.1 r.2 2 W hW (by have:=HSZ.out;unfold maxLen;omega)).mono ?_;rintro y w' ⟨rfl,h1,h2⟩;rw[<-HD.out,<-Hr1.out];exact⟨rfl,h1,Kp.ofGrown h2 (fun k hk _=>by cases hk;rfl)⟩
  have HD0:Hid ((List.replicate M (0:Int)).set 0 (d0:Int)=(d0:Int)::List.replicate N 0):=by rw[<-HM.out,Nat.add_comm,List.replicate_succ];rfl
  have f3c:∀W:World,Kp (fun k=>k=b\/k=gS\/k=gI) wc W->W.cell? ⟨g4,3,none⟩=some (.slice (some ⟨gI,0,none⟩) M M):=fun W hk=>(n4.kept hk (fun e=>by rcases e with e|e|e;(have:=HBN.out;omega);exact hn4S e;exact hn4I e)).c3
  have hM0:(0:Int)<(M:Int):=by have:=HM.out;omega
  have hM0n:0<M:=by have:=HM.out;omega
  clear HMS HMI hMw hK0 hk1 hKa hKc;go_upto_region 3 with fail;replace n4:=n4.kept (Kp.drew none' _) (fun h=>h);replace n2:=n2.kept (Kp.drew none' _) (fun h=>h);replace oS:=oS.keptN (Kp.drew none' _);replace oI:=oI.keptN (Kp.drew none' _);replace hR:=hR.keptK (Kp.drew none' _) (fun h=>h);refine wp_region_held_drew (S:=fun W=>Kp (fun k=>k=b\/k=gS\/k=gI) wc W) (by kernel_rfl) (Kp.drew _ _) (fun hHeld=>?_)
  refine Aa (i:=0) (d:=15) (v:=?_) rfl rfl (by kernel_rfl) (by kernel_rfl) (by kernel_rfl) (fun _ _ _ h=>h) (Or.inl ⟨by rfl,?_⟩) (by assumption) ?_;rotate_left
  ·intro W hSW;try dsimp only at hSW
   have q3:=f3c W hSW;go_simp;try with_reducible rfl
  try simp only[Act.put,Qa,Qb,Qc]
  refine Aa (i:=1) (d:=16) (v:=?_) rfl rfl (by kernel_rfl) (by kernel_rfl) (by kernel_rfl) (fun _ _ _ h=>h) (Or.inl ⟨by rfl,?_⟩) (by assumption) ?_;rotate_left
  ·intro W hSW;try dsimp only at hSW
   have q3:=f3c W hSW;go_simp;try with_reducible rfl
  try simp only[Act.put,Qa,Qb,Qc]
  refine Aa (i:=2) (d:=17) (v:=?_) rfl rfl (by kernel_rfl) (by kernel_rfl) (by kernel_rfl) (fun _ _ _ h=>h) (Or.inl ⟨by rfl,?_⟩) (by assumption) ?_;rotate_left
  ·intro W hSW;try dsimp only at hSW
   have q3:=f3c W hSW;go_simp;try with_reducible rfl
  try simp only[Act.put,Qa,Qb,Qc]
  refine wpAnyH_ready (rs:=[3]) (by kernel_rfl) (by simp) ?_;refine AllReadyH.cons rfl (fun K hK=>?_) ?_
  ·go_simp;go_wp2_with (go_at_call 105;refine(HNum2.out _ hR).mono ?_;clear hR;rintro e wx3 ⟨rfl,hR,hk3⟩);replace n4:=n4.kept hk3 (fun e=>by unfold only at e;have:=HBN.out;omega);replace n2:=n2.kept hk3 (fun e=>by unfold only at e;have:=HBN.out;omega);replace oS:=oS.kept hk3 (fun z hz e=>by have hg:=Option.some.inj hz;unfold only at e;have:=HBN.out;have:=oS.lt1;simp only at hg;omega)
   replace oI:=oI.kept hk3 (fun z hz e=>by have hg:=Option.some.inj hz;unfold only at e;have:=HBN.out;have:=oI.lt1;simp only at hg;omega);refine hK.out _ _ (hHeld.then (hk3.mono (fun k _ e=>.inl e))) (fun hHeld=>?_);clear hK K;try simp only[Act.put,Qa,Qb,Qc]
   refine Aa (i:=4) (d:=19) (v:=?_) rfl rfl (by kernel_rfl) (by kernel_rfl) (by kernel_rfl) (fun _ _ _ h=>h) (Or.inl ⟨by rfl,?_⟩) (by assumption) ?_;rotate_left
   ·intro W hSW;try dsimp only at hSW
    go_simp;try with_reducible rfl
   try simp only[Act.put,Qa,Qb,Qc]
   refine Aa (i:=5) (d:=20) (v:=?_) rfl rfl (by kernel_rfl) (by kernel_rfl) (by kernel_rfl) (fun _ _ _ h=>h) (Or.inl ⟨by rfl,?_⟩) (by assumption) ?_;rotate_left
   ·intro W hSW;try dsimp only at hSW
    go_simp;try with_reducible rfl
   try simp only[Act.put,Qa,Qb,Qc]
   refine wpAnyH_ready (rs:=[6]) (by kernel_rfl) (by simp) ?_;refine AllReadyH.cons rfl (fun K hK=>?_) ?_
   ·refine De (by rfl) (by rfl) (.tmp 20) (.tmp 19) (by rfl) gI 0 (by rfl) (d0:Int) (by rfl) oI (by simp;have:=HM.out;omega) ?_;clear oI;intro wx6 oI hk6;replace n4:=n4.kept hk6 (fun e=>hn4I e);replace n2:=n2.kept hk6 (fun e=>by unfold only at e;have:=HBN.out;have:=HGE.out;omega);replace oS:=oS.kept hk6 (fun z hz e=>by have hg:=Option.some.inj hz;unfold only at e;simp only at hg;exact hSI (hg.trans e));replace hR:=hR.keptK hk6 (fun e=>by unfold only at e;have:=HBN.out;have:=HGE.out;omega)
    refine hK.out _ _ (hHeld.then (hk6.mono (fun k _ e=>.inr (.inr e)))) (fun hHeld=>?_);clear hK K;try simp only[Act.put,Qa,Qb,Qc]
    refine wpAnyH_done (by kernel_rfl) ?_ _;generalize wx6=wd at *;have f2:∀W:World,Kp (fun k=>k=b\/k=gS\/k=gI) wd W->W.cell? ⟨g4,2,none⟩=some (.slice (some ⟨gS,0,none⟩) N N):=fun W hk=>(n4.kept hk (fun e=>by rcases e with e|e|e;(have:=HBN.out;have:=HGE.out;omega);exact hn4S e;exact hn4I e)).c2
    have f3:∀W:World,Kp (fun k=>k=b\/k=gS\/k=gI) wd W->W.cell? ⟨g4,3,none⟩=some (.slice (some ⟨gI,0,none⟩) M M):=fun W hk=>(n4.kept hk (fun e=>by rcases e with e|e|e;(have:=HBN.out;have:=HGE.out;omega);exact hn4S e;exact hn4I e)).c3
    rw[HD0.out]at oI;have HKc:=hide (HKA.out.trans hHeld (fun _ _ h=>h) (fun k hk e=>by rcases e with e|e|e;exact e;(exact absurd hk (by have:=HGE.out;have:=HBN.out;omega));(exact absurd hk (by have:=HGE.out;have:=HBN.out;omega))))
    clear hHeld hdw hd0;have c2:=n4.c2;go_wp2
    go_loopw [5,24] (fun _ t wr=>∃j:Nat,j<=N/\t=.int .i64 j/\Nb wr g4 false (.slice none 0 0) (.slice (some ⟨gS,0,none⟩) N N) (.slice (some ⟨gI,0,none⟩) M M)/\Nb wr w.heap.size false (.slice none 0 0) (.slice none 0 0) (.slice none 0 0)/\Ow Value.string 9 wr w1.heap.size (.slice (some ⟨gS,0,none⟩) N N) (ndK r1 j++List.replicate (N - j) ⟨#[]⟩)/\Ow (Value.int .i64) 3 wr w1.heap.size (.slice (some ⟨gI,0,none⟩) M M) (((d0:Int)::ndD r1 j)++List.replicate (N - j) 0)/\Rd wr b (ndS r1 j).1 (ndS r1 j).2/\Kp (fun k=>k=b\/k=gS\/k=gI) wd wr) (fun _ t _=>N - (intOf t).toNat)
    case atStart=>exact⟨0,Nat.zero_le _,rfl,n4,n2,by simpa[ndK]using oS,by simpa[ndD]using oI,hR,Kp.refl _ _⟩
    case round =>
     clear n4 n2 oS oI hR c2;obtain⟨j,hj,rfl,n4,n2,oS,oI,hR,hK⟩:=hrel;by_cases hlt:j<N
     ·obtain⟨m,hm⟩:∃m,N - j=m+1:=⟨N - j - 1,by omega⟩;have Hm:Hid (N - (j+1)=m):=by show _=_;omega
      rw[hm]at oS oI;have hlt':(j:Int)<(N:Int):=by omega
      obtain⟨s,Hs⟩:∃s,Hid (ndS r1 j=s):=⟨_,rfl⟩;have HSs:Hid (s.1.size<=maxLen):=by rw[<-Hs.out];have:=Fq r1 j;have:=HSZ1.out;show _<=_;unfold maxLen;omega
      rw[Hs.out]at hR;obtain⟨K1,HKK⟩:∃q,Hid (gStr s 32=q):=⟨_,rfl⟩;obtain⟨s1,Hs1⟩:∃q,Hid (sStr s 32=q):=⟨_,rfl⟩;obtain⟨D1,HDD⟩:∃q,Hid (gNum s1 2=q):=⟨_,rfl⟩;obtain⟨s2,Hs2⟩:∃q,Hid (sNum s1 2=q):=⟨_,rfl⟩;have HStr:Hid (∀W:World,Rd W b s.1 s.2->Calls prog 193 #[.pointer (some ⟨b,0,none⟩),.int .i64 32] W fun y w'=>y=.returned (.string K1)/\Rd w' b s1.1 s1.2/\Kp (only b) W w'):=by
       intro W hW;refine(FG b s.1 s.2 32 W hW HSs.out).mono ?_;rintro y w' ⟨rfl,h1,h2⟩;rw[<-HKK.out,<-Hs1.out];exact⟨rfl,h1,Kp.ofGrown h2 (fun k hk _=>by cases hk;rfl)⟩
      have HNum3:Hid (∀W:World,Rd W b s1.1 s1.2->Calls prog 105 #[.pointer (some ⟨b,0,none⟩),.int .i64 2] W fun y w'=>y=.returned (.int .u64 (D1:Int))/\Rd w' b s2.1 s2.2/\Kp (only b) W w'):=by
       intro W hW;refine(FF b s1.1 s1.2 2 W hW (by rw[<-Hs1.out];exact Nat.le_trans (Cp _ _ _) HSs.out)).mono ?_;rintro y w' ⟨rfl,h1,h2⟩;rw[<-HDD.out,<-Hs2.out];exact⟨rfl,h1,Kp.ofGrown h2 (fun k hk _=>by cases hk;rfl)⟩
      have hD1:D1<65536:=by rw[<-HDD.out];exact EL _
      have hD1w:IntKind.i64.wrap (D1:Int)=(D1:Int):=by rw[IntKind.wrap_i64];omega
      have HSn:Hid (ndS r1 (j+1)=s2):=by show sNum (sStr (ndS r1 j) 32) 2=_;rw[Hs.out,Hs1.out,Hs2.out]
      have HGS:Hid (ndK r1 (j+1)++List.replicate (N - (j+1)) ⟨#[]⟩=(ndK r1 j++[K1])++List.replicate m ⟨#[]⟩):=by show (ndK r1 j++[gStr (ndS r1 j) 32])++_=_;rw[Hs.out,HKK.out,Hm.out]
      have HGI:Hid (((d0:Int)::ndD r1 (j+1))++List.replicate (N - (j+1)) 0=(((d0:Int)::ndD r1 j)++[(D1:Int)])++List.replicate m 0):=by show ((d0:Int)::(ndD r1 j++[(gNum (sStr (ndS r1 j) 32) 2:Int)]))++_=_;rw[Hs.out,Hs1.out,HDD.out,Hm.out];simp
      obtain⟨k1,HK1⟩:∃k1,Hid (j+1=k1):=⟨_,rfl⟩;have hk1w:IntKind.i64.wrap ((j:Int)+1)=(k1:Int):=by rw[<-HK1.out,IntKind.wrap_i64];omega
      have hk1i:(k1:Int)<(M:Int):=by have:=HK1.out;have:=HM.out;omega
      have hk1n:k1<M:=by have:=HK1.out;have:=HM.out;omega
      have HES:Hid ((ndK r1 j++List.replicate (m+1) (⟨#[]⟩:ByteArray)).set j K1=(ndK r1 j++[K1])++List.replicate m (⟨#[]⟩:ByteArray)):=by have:=Gz (ndK r1 j) (⟨#[]⟩:ByteArray) m K1;rw[G6]at this;exact this
      have HEI:Hid ((((d0:Int)::ndD r1 j)++List.replicate (m+1) 0).set k1 (D1:Int)=(((d0:Int)::ndD r1 j)++[(D1:Int)])++List.replicate m 0):=by have:=Gz ((d0:Int)::ndD r1 j) 0 m (D1:Int);rw[List.length_cons,G5,HK1.out]at this;exact this
      go_upto_region 7 with fail;replace n4:=n4.kept (Kp.drew none' _) (fun h=>h);replace n2:=n2.kept (Kp.drew none' _) (fun h=>h);replace oS:=oS.keptN (Kp.drew none' _);replace oI:=oI.keptN (Kp.drew none' _);replace hR:=hR.keptK (Kp.drew none' _) (fun h=>h);refine wp_region_held_drew (S:=fun W=>Kp (fun k=>k=b\/k=gS\/k=gI) wd W) (by kernel_rfl) (hK.thenN (Kp.drew none' _)) (fun hHeld=>?_)
      refine Aa (i:=0) (d:=27) (v:=?_) rfl rfl (by kernel_rfl) (by kernel_rfl) (by kernel_rfl) (fun _ _ _ h=>h) (Or.inl ⟨by rfl,?_⟩) (by assumption) ?_;rotate_left
      ·intro W hSW;try dsimp only at hSW
       have q2:=f2 W hSW;have q3:=f3 W hSW;go_simp;try with_reducible rfl
      try simp only[Act.put,Qa,Qb,Qc]
      refine Aa (i:=1) (d:=28) (v:=?_) rfl rfl (by kernel_rfl) (by kernel_rfl) (by kernel_rfl) (fun _ _ _ h=>h) (Or.inl ⟨by rfl,?_⟩) (by assumption) ?_;rotate_left
      ·intro W hSW;try dsimp only at hSW
       have q2:=f2 W hSW;have q3:=f3 W hSW;go_simp;try with_reducible rfl
      try simp only[Act.put,Qa,Qb,Qc]
      refine Aa (i:=2) (d:=29) (v:=?_) rfl rfl (by kernel_rfl) (by kernel_rfl) (by kernel_rfl) (fun _ _ _ h=>h) (Or.inl ⟨by rfl,?_⟩) (by assumption) ?_;rotate_left
      ·intro W hSW;try dsimp only at hSW
       have q2:=f2 W hSW;have q3:=f3 W hSW;go_simp;try with_reducible rfl
      try simp only[Act.put,Qa,Qb,Qc]
      refine Aa (i:=3) (d:=30) (v:=?_) rfl rfl (by kernel_rfl) (by kernel_rfl) (by kernel_rfl) (fun _ _ _ h=>h) (Or.inl ⟨by rfl,?_⟩) (by assumption) ?_;rotate_left
      ·intro W hSW;try dsimp only at hSW
       have q2:=f2 W hSW;have q3:=f3 W hSW;go_simp;try with_reducible rfl
      try simp only[Act.put,Qa,Qb,Qc]
      refine wpAnyH_ready (rs:=[4]) (by kernel_rfl) (by simp) ?_;refine AllReadyH.cons rfl (fun K hK=>?_) ?_
      ·go_simp;go_wp2_with (go_at_call 193;refine(HStr.out _ hR).mono ?_;clear hR;rintro e wx4 ⟨rfl,hR,hk4⟩);replace n4:=n4.kept hk4 (fun e=>by unfold only at e;have:=HBN.out;omega);replace n2:=n2.kept hk4 (fun e=>by unfold only at e;have:=HBN.out;omega);replace oS:=oS.kept hk4 (fun z hz e=>by have hg:=Option.some.inj hz;unfold only at e;have:=HBN.out;have:=oS.lt1;simp only at hg;omega)
       replace oI:=oI.kept hk4 (fun z hz e=>by have hg:=Option.some.inj hz;unfold only at e;have:=HBN.out;have:=oI.lt1;simp only at hg;omega);refine hK.out _ _ (hHeld.then (hk4.mono (fun k _ e=>.inl e))) (fun hHeld=>?_);clear hK K;try simp only[Act.put,Qa,Qb,Qc]
       refine Aa (i:=5) (d:=32) (v:=?_) rfl rfl (by kernel_rfl) (by kernel_rfl) (by kernel_rfl) (fun _ _ _ h=>h) (Or.inl ⟨by rfl,?_⟩) (by assumption) ?_;rotate_left
       ·intro W hSW;try dsimp only at hSW
        go_simp;try with_reducible rfl
       try simp only[Act.put,Qa,Qb,Qc]
       refine wpAnyH_ready (rs:=[6]) (by kernel_rfl) (by simp) ?_;refine AllReadyH.cons rfl (fun K hK=>?_) ?_
       ·refine FW (by rfl) (by rfl) (.tmp 32) (.tmp 31) (by rfl) gS j (by rfl) K1 (by rfl) oS (by rw[List.length_append,G6,List.length_replicate];omega) ?_;clear oS;intro wx6 oS hk6;replace n4:=n4.kept hk6 (fun e=>hn4S e);replace n2:=n2.kept hk6 (fun e=>by unfold only at e;have:=HBN.out;have:=HGE.out;omega);replace oI:=oI.kept hk6 (fun z hz e=>by have hg:=Option.some.inj hz;unfold only at e;simp only at hg;exact hSI ((hg.trans e).symm))
        replace hR:=hR.keptK hk6 (fun e=>by unfold only at e;have:=HBN.out;have:=HGE.out;omega);refine hK.out _ _ (hHeld.then (hk6.mono (fun k _ e=>.inr (.inl e)))) (fun hHeld=>?_);clear hK K;try simp only[Act.put,Qa,Qb,Qc]
        refine wpAnyH_done (by kernel_rfl) ?_ _;go_upto_region 8 with fail;replace n4:=n4.kept (Kp.drew none' _) (fun h=>h);replace n2:=n2.kept (Kp.drew none' _) (fun h=>h);replace oS:=oS.keptN (Kp.drew none' _);replace oI:=oI.keptN (Kp.drew none' _);replace hR:=hR.keptK (Kp.drew none' _) (fun h=>h);refine wp_region_held_drew (S:=fun W=>Kp (fun k=>k=b\/k=gS\/k=gI) wd W) (by kernel_rfl) (hHeld.thenN (Kp.drew none' _)) (fun hHeld=>?_)
        refine Aa (i:=0) (d:=33) (v:=?_) rfl rfl (by kernel_rfl) (by kernel_rfl) (by kernel_rfl) (fun _ _ _ h=>h) (Or.inl ⟨by rfl,?_⟩) (by assumption) ?_;rotate_left
        ·intro W hSW;try dsimp only at hSW
         have q2:=f2 W hSW;have q3:=f3 W hSW;go_simp;try with_reducible rfl
        try simp only[Act.put,Qa,Qb,Qc]
        refine Aa (i:=1) (d:=34) (v:=?_) rfl rfl (by kernel_rfl) (by kernel_rfl) (by kernel_rfl) (fun _ _ _ h=>h) (Or.inl ⟨by rfl,?_⟩) (by assumption) ?_;rotate_left
        ·intro W hSW;try dsimp only at hSW
         have q2:=f2 W hSW;have q3:=f3 W hSW;go_simp;try with_reducible rfl
        try simp only[Act.put,Qa,Qb,Qc]
        refine Aa (i:=2) (d:=35) (v:=?_) rfl rfl (by kernel_rfl) (by kernel_rfl) (by kernel_rfl) (fun _ _ _ h=>h) (Or.inl ⟨by rfl,?_⟩) (by assumption) ?_;rotate_left
        ·intro W hSW;try dsimp only at hSW
         have q2:=f2 W hSW;have q3:=f3 W hSW;go_simp;try with_reducible rfl
        try simp only[Act.put,Qa,Qb,Qc]
        refine Aa (i:=3) (d:=36) (v:=?_) rfl rfl (by kernel_rfl) (by kernel_rfl) (by kernel_rfl) (fun _ _ _ h=>h) (Or.inl ⟨by rfl,?_⟩) (by assumption) ?_;rotate_left
        ·intro W hSW;try dsimp only at hSW
         have q2:=f2 W hSW;have q3:=f3 W hSW;go_simp;try with_reducible rfl
        try simp only[Act.put,Qa,Qb,Qc]
        refine Aa (i:=4) (d:=37) (v:=?_) rfl rfl (by kernel_rfl) (by kernel_rfl) (by kernel_rfl) (fun _ _ _ h=>h) (Or.inl ⟨by rfl,?_⟩) (by assumption) ?_;rotate_left
        ·intro W hSW;try dsimp only at hSW
         have q2:=f2 W hSW;have q3:=f3 W hSW;go_simp;try with_reducible rfl
        try simp only[Act.put,Qa,Qb,Qc]
        refine wpAnyH_ready (rs:=[5]) (by kernel_rfl) (by simp) ?_;refine AllReadyH.cons rfl (fun K hK=>?_) ?_
        ·go_simp;go_wp2_with (go_at_call 105;refine(HNum3.out _ hR).mono ?_;clear hR;rintro e wx5 ⟨rfl,hR,hk5⟩);replace n4:=n4.kept hk5 (fun e=>by unfold only at e;have:=HBN.out;omega);replace n2:=n2.kept hk5 (fun e=>by unfold only at e;have:=HBN.out;omega);replace oS:=oS.kept hk5 (fun z hz e=>by have hg:=Option.some.inj hz;unfold only at e;have:=HBN.out;have:=oS.lt1;simp only at hg;omega)
         replace oI:=oI.kept hk5 (fun z hz e=>by have hg:=Option.some.inj hz;unfold only at e;have:=HBN.out;have:=oI.lt1;simp only at hg;omega);refine hK.out _ _ (hHeld.then (hk5.mono (fun k _ e=>.inl e))) (fun hHeld=>?_);clear hK K;try simp only[Act.put,Qa,Qb,Qc]
         refine Aa (i:=6) (d:=39) (v:=?_) rfl rfl (by kernel_rfl) (by kernel_rfl) (by kernel_rfl) (fun _ _ _ h=>h) (Or.inl ⟨by rfl,?_⟩) (by assumption) ?_;rotate_left
         ·intro W hSW;try dsimp only at hSW
          go_simp;try with_reducible rfl
         try simp only[Act.put,Qa,Qb,Qc]
         refine Aa (i:=7) (d:=40) (v:=?_) rfl rfl (by kernel_rfl) (by kernel_rfl) (by kernel_rfl) (fun _ _ _ h=>h) (Or.inl ⟨by rfl,?_⟩) (by assumption) ?_;rotate_left
         ·intro W hSW;try dsimp only at hSW
          go_simp;try with_reducible rfl
         try simp only[Act.put,Qa,Qb,Qc]
         refine wpAnyH_ready (rs:=[8]) (by kernel_rfl) (by simp) ?_;refine AllReadyH.cons rfl (fun K hK=>?_) ?_
         ·refine De (by rfl) (by rfl) (.tmp 40) (.tmp 39) (by rfl) gI k1 (by rfl) (D1:Int) (by rfl) oI (by have:=HK1.out;rw[List.length_append,List.length_cons,G5,List.length_replicate];omega) ?_;clear oI;intro wx8 oI hk8;replace n4:=n4.kept hk8 (fun e=>hn4I e);replace n2:=n2.kept hk8 (fun e=>by unfold only at e;have:=HBN.out;have:=HGE.out;omega);replace oS:=oS.kept hk8 (fun z hz e=>by have hg:=Option.some.inj hz;unfold only at e;simp only at hg;exact hSI (hg.trans e))
          replace hR:=hR.keptK hk8 (fun e=>by unfold only at e;have:=HBN.out;have:=HGE.out;omega);refine hK.out _ _ (hHeld.then (hk8.mono (fun k _ e=>.inr (.inr e)))) (fun hHeld=>?_);clear hK K;try simp only[Act.put,Qa,Qb,Qc]
          refine wpAnyH_done (by kernel_rfl) ?_ _;go_wp2;go_roundw
          case rel =>
           refine⟨j+1,by omega,by have:=HK1.out;go_num,n4,n2,?_,?_,?_,hHeld⟩
           ·rw[HGS.out];rw[HES.out]at oS;exact oS
           ·rw[HGI.out];rw[HEI.out]at oI;exact oI
           ·rw[HSn.out];exact hR
          case measure=>have:=HK1.out;simp[intOf];omega
         exact AllReadyH.nil
        exact AllReadyH.nil
       exact AllReadyH.nil
      exact AllReadyH.nil
     ·have hlt':¬(j:Int)<(N:Int):=by omega
      have hje:j=N:=by omega
      subst hje;rw[Nat.sub_self,List.replicate_zero,List.append_nil]at oS oI;have c0:=n4.c0;have c1:=n4.c1;have c2:=n4.c2;have c3:=n4.c3;go_wp2_with (first
       | (refine Aj rfl rfl (.tmp 2) (.tmp 42) rfl w.heap.size rfl rfl n2 ?_;clear n2;intro w7 n2 hk7)
       | fail)
      refine bodyPost_ret (As rfl _ w.heap.size _ rfl n2) rfl ?_;refine⟨_,_,_,_,_,_,rfl,(oS.kept hk7 (fun z hz e=>by have hg:=Option.some.inj hz;unfold only at e;have:=oS.lt1;have:=HLT.out;simp only at hg;omega)).mem (by have:=HLT.out;omega),(oI.kept hk7 (fun z hz e=>by have hg:=Option.some.inj hz;unfold only at e;have:=oI.lt1;have:=HLT.out;simp only at hg;omega)).mem (by have:=HLT.out;omega),⟨_,_,_,_,rfl,rfl,hSI⟩,hR.keptK hk7 (fun e=>by unfold only at e;have:=HLT.out;omega),?_⟩
      exact(HKc.out.trans hK (fun _ _ h=>h) (fun k hk e=>by rcases e with e|e|e;exact e;(exact absurd hk (by have:=HGE.out;have:=HLT.out;omega));(exact absurd hk (by have:=HGE.out;have:=HLT.out;omega)))).trans hk7 (fun _ _ h=>h) (fun k hk e=>absurd hk (by unfold only at e;omega))
   exact AllReadyH.nil
  exact AllReadyH.nil
 case first =>
  refine wp_region_held_drew (S:=fun W=>Kp none' w1 W) (by kernel_rfl) (Kp.drew _ _) (fun hHeld=>?_);refine Aa (i:=0) (d:=9) (v:=?_) rfl rfl (by kernel_rfl) (by kernel_rfl) (by kernel_rfl) (fun _ _ _ h=>h) (Or.inl ⟨by rfl,?_⟩) (by assumption) ?_;rotate_left
  ·intro W hSW;try dsimp only at hSW
   go_simp;try with_reducible rfl
  try simp only[Act.put,Qa,Qb,Qc]
  refine Aa (i:=2) (d:=11) (v:=?_) rfl rfl (by kernel_rfl) (by kernel_rfl) (by kernel_rfl) (fun _ _ _ h=>h) (Or.inl ⟨by rfl,?_⟩) (by assumption) ?_;rotate_left
  ·intro W hSW;try dsimp only at hSW
   go_simp;try with_reducible rfl
  try simp only[Act.put,Qa,Qb,Qc]
  refine Aa (i:=3) (d:=12) (v:=?_) rfl rfl (by kernel_rfl) (by kernel_rfl) (by kernel_rfl) (fun _ _ _ h=>h) (Or.inl ⟨by rfl,?_⟩) (by assumption) ?_;rotate_left
  ·intro W hSW;try dsimp only at hSW
   go_simp;try with_reducible rfl
  try simp only[Act.put,Qa,Qb,Qc]
  refine wpAnyH_ready (rs:=[1,4,6]) (by kernel_rfl) (by simp) ?_;refine AllReadyH.cons rfl (fun K hK=>?_) ?_
  ·obtain⟨wx1,hmk1,oS,hk1⟩:=HMS.out _;skip;refine AV (d:=10) (by rfl) (by rfl) (.tmp 9) 32 (by rfl) _ (by rfl) hmk1 ?_;clear hmk1;have hbS:=Nat.le_trans hHeld.size oS.lt1.1;replace hR:=hR.keptK hk1 (fun h=>h);replace n2:=n2.kept hk1 (fun h=>h);refine hK.out _ _ (hHeld.thenN hk1) (fun hHeld=>?_);clear hK K;try simp only[Act.put,Qa,Qb,Qc]
   refine wpAnyH_ready (rs:=[4,6]) (by kernel_rfl) (by simp) ?_;refine AllReadyH.cons rfl (fun K hK=>?_) ?_
   ·obtain⟨wx4,hmk4,oI,hk4⟩:=HMI.out _;skip;refine AV (d:=13) (by rfl) (by rfl) (.tmp 12) 33 (by rfl) _ (by rfl) hmk4 ?_;clear hmk4;have hbI:=Nat.le_trans hHeld.size oI.lt1.1;have hne:=Nat.ne_of_lt (Qd oS.lt1.2 oI.lt1.1);replace hR:=hR.keptK hk4 (fun h=>h);replace n2:=n2.kept hk4 (fun h=>h);replace oS:=oS.keptN hk4;refine hK.out _ _ (hHeld.thenN hk4) (fun hHeld=>?_);clear hK K;try simp only[Act.put,Qa,Qb,Qc]
    refine Aa (i:=5) (d:=14) (v:=?_) rfl rfl (by kernel_rfl) (by kernel_rfl) (by kernel_rfl) (fun _ _ _ h=>h) (Or.inl ⟨by rfl,?_⟩) (by assumption) ?_;rotate_left
    ·intro W hSW;try dsimp only at hSW
     go_simp;try with_reducible rfl
    try simp only[Act.put,Qa,Qb,Qc]
    refine wpAnyH_ready (rs:=[6]) (by kernel_rfl) (by simp) ?_;refine AllReadyH.cons rfl (fun K hK=>?_) ?_
    ·refine Bh (d:=4) (by rfl) (by rfl) (by rfl) ?_;intro wx6 g4 n4 hk6 hg6;have hb4:=Nat.le_trans hHeld.size hg6;have hn4S:=Nat.ne_of_gt (Qd oS.lt1.2 hg6);have hn4I:=Nat.ne_of_gt (Qd oI.lt1.2 hg6);replace hR:=hR.keptK hk6 (fun h=>h);replace n2:=n2.kept hk6 (fun h=>h);replace oS:=oS.keptN hk6;replace oI:=oI.keptN hk6;refine hK.out _ _ (hHeld.thenN hk6) (fun hHeld=>?_);clear hK K
     try simp only[Act.put,Qa,Qb,Qc]
     refine wpAnyH_ready (rs:=[7]) (by kernel_rfl) (by simp) ?_;refine AllReadyH.cons rfl (fun K hK=>?_) ?_
     ·refine Ah (by rfl) (by rfl) (.tmp 4) (.tmp 14) (by rfl) g4 (by rfl) (by rfl) n4 ?_;clear n4;intro wx7 n4 hk7;replace oS:=oS.kept hk7 (fun z hz e=>by have hg:=Option.some.inj hz;unfold only at e;exact hn4S (e.symm.trans hg.symm));replace oI:=oI.kept hk7 (fun z hz e=>by have hg:=Option.some.inj hz;unfold only at e;exact hn4I (e.symm.trans hg.symm));replace hR:=hR.keptK hk7 (fun e=>by unfold only at e;have:=HLT.out;omega);replace n2:=Aw n2 (by have:=HLT.out;omega) hk7
      refine hK.out _ _ (Ax hHeld hb4 hk7) (fun hHeld=>?_);clear hK K;try simp only[Act.put,Qa,Qb,Qc]
      refine wpAnyH_done (by kernel_rfl) ?_ _;try go_wp2
      go_meet;exact⟨g4,_,_,rfl,n4,n2,oS.mem hbS,oI.mem hbI,hR,hn4S,hn4I,by first|exact hne|exact hne.symm|exact fun e=>hne e.symm,hb4,hHeld⟩
     exact AllReadyH.nil
    exact AllReadyH.nil
   refine AllReadyH.cons rfl (fun K hK=>?_) ?_
   ·refine Bh (d:=4) (by rfl) (by rfl) (by rfl) ?_;intro wx6 g4 n4 hk6 hg6;have hb4:=Nat.le_trans hHeld.size hg6;have hn4S:=Nat.ne_of_gt (Qd oS.lt1.2 hg6);replace hR:=hR.keptK hk6 (fun h=>h);replace n2:=n2.kept hk6 (fun h=>h);replace oS:=oS.keptN hk6;refine hK.out _ _ (hHeld.thenN hk6) (fun hHeld=>?_);clear hK K;try simp only[Act.put,Qa,Qb,Qc]
    refine wpAnyH_ready (rs:=[4]) (by kernel_rfl) (by simp) ?_;refine AllReadyH.cons rfl (fun K hK=>?_) ?_
    ·obtain⟨wx4,hmk4,oI,hk4⟩:=HMI.out _;skip;refine AV (d:=13) (by rfl) (by rfl) (.tmp 12) 33 (by rfl) _ (by rfl) hmk4 ?_;clear hmk4;have hbI:=Nat.le_trans hHeld.size oI.lt1.1;have hne:=Nat.ne_of_lt (Qd oS.lt1.2 oI.lt1.1);have hn4I:=Nat.ne_of_lt (Qd n4.lt oI.lt1.1);replace hR:=hR.keptK hk4 (fun h=>h);replace n2:=n2.kept hk4 (fun h=>h);replace oS:=oS.keptN hk4;replace n4:=n4.kept hk4 (fun h=>h);refine hK.out _ _ (hHeld.thenN hk4) (fun hHeld=>?_);clear hK K
     try simp only[Act.put,Qa,Qb,Qc]
     refine Aa (i:=5) (d:=14) (v:=?_) rfl rfl (by kernel_rfl) (by kernel_rfl) (by kernel_rfl) (fun _ _ _ h=>h) (Or.inl ⟨by rfl,?_⟩) (by assumption) ?_;rotate_left
     ·intro W hSW;try dsimp only at hSW
      go_simp;try with_reducible rfl
     try simp only[Act.put,Qa,Qb,Qc]
     refine wpAnyH_ready (rs:=[7]) (by kernel_rfl) (by simp) ?_;refine AllReadyH.cons rfl (fun K hK=>?_) ?_
     ·refine Ah (by rfl) (by rfl) (.tmp 4) (.tmp 14) (by rfl) g4 (by rfl) (by rfl) n4 ?_;clear n4;intro wx7 n4 hk7;replace oS:=oS.kept hk7 (fun z hz e=>by have hg:=Option.some.inj hz;unfold only at e;exact hn4S (e.symm.trans hg.symm));replace oI:=oI.kept hk7 (fun z hz e=>by have hg:=Option.some.inj hz;unfold only at e;exact hn4I (e.symm.trans hg.symm));replace hR:=hR.keptK hk7 (fun e=>by unfold only at e;have:=HLT.out;omega);replace n2:=Aw n2 (by have:=HLT.out;omega) hk7
      refine hK.out _ _ (Ax hHeld hb4 hk7) (fun hHeld=>?_);clear hK K;try simp only[Act.put,Qa,Qb,Qc]
      refine wpAnyH_done (by kernel_rfl) ?_ _;try go_wp2
      go_meet;exact⟨g4,_,_,rfl,n4,n2,oS.mem hbS,oI.mem hbI,hR,hn4S,hn4I,by first|exact hne|exact hne.symm|exact fun e=>hne e.symm,hb4,hHeld⟩
     exact AllReadyH.nil
    exact AllReadyH.nil
   exact AllReadyH.nil
  refine AllReadyH.cons rfl (fun K hK=>?_) ?_
  ·obtain⟨wx4,hmk4,oI,hk4⟩:=HMI.out _;skip;refine AV (d:=13) (by rfl) (by rfl) (.tmp 12) 33 (by rfl) _ (by rfl) hmk4 ?_;clear hmk4;have hbI:=Nat.le_trans hHeld.size oI.lt1.1;replace hR:=hR.keptK hk4 (fun h=>h);replace n2:=n2.kept hk4 (fun h=>h);refine hK.out _ _ (hHeld.thenN hk4) (fun hHeld=>?_);clear hK K;try simp only[Act.put,Qa,Qb,Qc]
   refine wpAnyH_ready (rs:=[1,6]) (by kernel_rfl) (by simp) ?_;refine AllReadyH.cons rfl (fun K hK=>?_) ?_
   ·obtain⟨wx1,hmk1,oS,hk1⟩:=HMS.out _;skip;refine AV (d:=10) (by rfl) (by rfl) (.tmp 9) 32 (by rfl) _ (by rfl) hmk1 ?_;clear hmk1;have hbS:=Nat.le_trans hHeld.size oS.lt1.1;have hne:=Nat.ne_of_lt (Qd oI.lt1.2 oS.lt1.1);replace hR:=hR.keptK hk1 (fun h=>h);replace n2:=n2.kept hk1 (fun h=>h);replace oI:=oI.keptN hk1;refine hK.out _ _ (hHeld.thenN hk1) (fun hHeld=>?_);clear hK K;try simp only[Act.put,Qa,Qb,Qc]
    refine Aa (i:=5) (d:=14) (v:=?_) rfl rfl (by kernel_rfl) (by kernel_rfl) (by kernel_rfl) (fun _ _ _ h=>h) (Or.inl ⟨by rfl,?_⟩) (by assumption) ?_;rotate_left
    ·intro W hSW;try dsimp only at hSW
     go_simp;try with_reducible rfl
    try simp only[Act.put,Qa,Qb,Qc]
    refine wpAnyH_ready (rs:=[6]) (by kernel_rfl) (by simp) ?_;refine AllReadyH.cons rfl (fun K hK=>?_) ?_
    ·refine Bh (d:=4) (by rfl) (by rfl) (by rfl) ?_;intro wx6 g4 n4 hk6 hg6;have hb4:=Nat.le_trans hHeld.size hg6;have hn4S:=Nat.ne_of_gt (Qd oS.lt1.2 hg6);have hn4I:=Nat.ne_of_gt (Qd oI.lt1.2 hg6);replace hR:=hR.keptK hk6 (fun h=>h);replace n2:=n2.kept hk6 (fun h=>h);replace oS:=oS.keptN hk6;replace oI:=oI.keptN hk6;refine hK.out _ _ (hHeld.thenN hk6) (fun hHeld=>?_);clear hK K
     try simp only[Act.put,Qa,Qb,Qc]
     refine wpAnyH_ready (rs:=[7]) (by kernel_rfl) (by simp) ?_;refine AllReadyH.cons rfl (fun K hK=>?_) ?_
     ·refine Ah (by rfl) (by rfl) (.tmp 4) (.tmp 14) (by rfl) g4 (by rfl) (by rfl) n4 ?_;clear n4;intro wx7 n4 hk7;replace oS:=oS.kept hk7 (fun z hz e=>by have hg:=Option.some.inj hz;unfold only at e;exact hn4S (e.symm.trans hg.symm));replace oI:=oI.kept hk7 (fun z hz e=>by have hg:=Option.some.inj hz;unfold only at e;exact hn4I (e.symm.trans hg.symm));replace hR:=hR.keptK hk7 (fun e=>by unfold only at e;have:=HLT.out;omega);replace n2:=Aw n2 (by have:=HLT.out;omega) hk7
      refine hK.out _ _ (Ax hHeld hb4 hk7) (fun hHeld=>?_);clear hK K;try simp only[Act.put,Qa,Qb,Qc]
      refine wpAnyH_done (by kernel_rfl) ?_ _;try go_wp2
      go_meet;exact⟨g4,_,_,rfl,n4,n2,oS.mem hbS,oI.mem hbI,hR,hn4S,hn4I,by first|exact hne|exact hne.symm|exact fun e=>hne e.symm,hb4,hHeld⟩
     exact AllReadyH.nil
    exact AllReadyH.nil
   refine AllReadyH.cons rfl (fun K hK=>?_) ?_
   ·refine Bh (d:=4) (by rfl) (by rfl) (by rfl) ?_;intro wx6 g4 n4 hk6 hg6;have hb4:=Nat.le_trans hHeld.size hg6;have hn4I:=Nat.ne_of_gt (Qd oI.lt1.2 hg6);replace hR:=hR.keptK hk6 (fun h=>h);replace n2:=n2.kept hk6 (fun h=>h);replace oI:=oI.keptN hk6;refine hK.out _ _ (hHeld.thenN hk6) (fun hHeld=>?_);clear hK K;try simp only[Act.put,Qa,Qb,Qc]
    refine wpAnyH_ready (rs:=[1]) (by kernel_rfl) (by simp) ?_;refine AllReadyH.cons rfl (fun K hK=>?_) ?_
    ·obtain⟨wx1,hmk1,oS,hk1⟩:=HMS.out _;skip;refine AV (d:=10) (by rfl) (by rfl) (.tmp 9) 32 (by rfl) _ (by rfl) hmk1 ?_;clear hmk1;have hbS:=Nat.le_trans hHeld.size oS.lt1.1;have hne:=Nat.ne_of_lt (Qd oI.lt1.2 oS.lt1.1);have hn4S:=Nat.ne_of_lt (Qd n4.lt oS.lt1.1);replace hR:=hR.keptK hk1 (fun h=>h);replace n2:=n2.kept hk1 (fun h=>h);replace oI:=oI.keptN hk1;replace n4:=n4.kept hk1 (fun h=>h);refine hK.out _ _ (hHeld.thenN hk1) (fun hHeld=>?_);clear hK K
     try simp only[Act.put,Qa,Qb,Qc]
     refine Aa (i:=5) (d:=14) (v:=?_) rfl rfl (by kernel_rfl) (by kernel_rfl) (by kernel_rfl) (fun _ _ _ h=>h) (Or.inl ⟨by rfl,?_⟩) (by assumption) ?_;rotate_left
     ·intro W hSW;try dsimp only at hSW
      go_simp;try with_reducible rfl
     try simp only[Act.put,Qa,Qb,Qc]
     refine wpAnyH_ready (rs:=[7]) (by kernel_rfl) (by simp) ?_;refine AllReadyH.cons rfl (fun K hK=>?_) ?_
     ·refine Ah (by rfl) (by rfl) (.tmp 4) (.tmp 14) (by rfl) g4 (by rfl) (by rfl) n4 ?_;clear n4;intro wx7 n4 hk7;replace oS:=oS.kept hk7 (fun z hz e=>by have hg:=Option.some.inj hz;unfold only at e;exact hn4S (e.symm.trans hg.symm));replace oI:=oI.kept hk7 (fun z hz e=>by have hg:=Option.some.inj hz;unfold only at e;exact hn4I (e.symm.trans hg.symm));replace hR:=hR.keptK hk7 (fun e=>by unfold only at e;have:=HLT.out;omega);replace n2:=Aw n2 (by have:=HLT.out;omega) hk7
      refine hK.out _ _ (Ax hHeld hb4 hk7) (fun hHeld=>?_);clear hK K;try simp only[Act.put,Qa,Qb,Qc]
      refine wpAnyH_done (by kernel_rfl) ?_ _;try go_wp2
      go_meet;exact⟨g4,_,_,rfl,n4,n2,oS.mem hbS,oI.mem hbI,hR,hn4S,hn4I,by first|exact hne|exact hne.symm|exact fun e=>hne e.symm,hb4,hHeld⟩
     exact AllReadyH.nil
    exact AllReadyH.nil
   exact AllReadyH.nil
  refine AllReadyH.cons rfl (fun K hK=>?_) ?_
  ·refine Bh (d:=4) (by rfl) (by rfl) (by rfl) ?_;intro wx6 g4 n4 hk6 hg6;have hb4:=Nat.le_trans hHeld.size hg6;replace hR:=hR.keptK hk6 (fun h=>h);replace n2:=n2.kept hk6 (fun h=>h);refine hK.out _ _ (hHeld.thenN hk6) (fun hHeld=>?_);clear hK K;try simp only[Act.put,Qa,Qb,Qc]
   refine wpAnyH_ready (rs:=[1,4]) (by kernel_rfl) (by simp) ?_;refine AllReadyH.cons rfl (fun K hK=>?_) ?_
   ·obtain⟨wx1,hmk1,oS,hk1⟩:=HMS.out _;skip;refine AV (d:=10) (by rfl) (by rfl) (.tmp 9) 32 (by rfl) _ (by rfl) hmk1 ?_;clear hmk1;have hbS:=Nat.le_trans hHeld.size oS.lt1.1;have hn4S:=Nat.ne_of_lt (Qd n4.lt oS.lt1.1);replace hR:=hR.keptK hk1 (fun h=>h);replace n2:=n2.kept hk1 (fun h=>h);replace n4:=n4.kept hk1 (fun h=>h);refine hK.out _ _ (hHeld.thenN hk1) (fun hHeld=>?_);clear hK K;try simp only[Act.put,Qa,Qb,Qc]
    refine wpAnyH_ready (rs:=[4]) (by kernel_rfl) (by simp) ?_;refine AllReadyH.cons rfl (fun K hK=>?_) ?_
    ·obtain⟨wx4,hmk4,oI,hk4⟩:=HMI.out _;skip;refine AV (d:=13) (by rfl) (by rfl) (.tmp 12) 33 (by rfl) _ (by rfl) hmk4 ?_;clear hmk4;have hbI:=Nat.le_trans hHeld.size oI.lt1.1;have hne:=Nat.ne_of_lt (Qd oS.lt1.2 oI.lt1.1);have hn4I:=Nat.ne_of_lt (Qd n4.lt oI.lt1.1);replace hR:=hR.keptK hk4 (fun h=>h);replace n2:=n2.kept hk4 (fun h=>h);replace oS:=oS.keptN hk4;replace n4:=n4.kept hk4 (fun h=>h);refine hK.out _ _ (hHeld.thenN hk4) (fun hHeld=>?_);clear hK K
     try simp only[Act.put,Qa,Qb,Qc]
     refine Aa (i:=5) (d:=14) (v:=?_) rfl rfl (by kernel_rfl) (by kernel_rfl) (by kernel_rfl) (fun _ _ _ h=>h) (Or.inl ⟨by rfl,?_⟩) (by assumption) ?_;rotate_left
     ·intro W hSW;try dsimp only at hSW
      go_simp;try with_reducible rfl
     try simp only[Act.put,Qa,Qb,Qc]
     refine wpAnyH_ready (rs:=[7]) (by kernel_rfl) (by simp) ?_;refine AllReadyH.cons rfl (fun K hK=>?_) ?_
     ·refine Ah (by rfl) (by rfl) (.tmp 4) (.tmp 14) (by rfl) g4 (by rfl) (by rfl) n4 ?_;clear n4;intro wx7 n4 hk7;replace oS:=oS.kept hk7 (fun z hz e=>by have hg:=Option.some.inj hz;unfold only at e;exact hn4S (e.symm.trans hg.symm));replace oI:=oI.kept hk7 (fun z hz e=>by have hg:=Option.some.inj hz;unfold only at e;exact hn4I (e.symm.trans hg.symm));replace hR:=hR.keptK hk7 (fun e=>by unfold only at e;have:=HLT.out;omega);replace n2:=Aw n2 (by have:=HLT.out;omega) hk7
      refine hK.out _ _ (Ax hHeld hb4 hk7) (fun hHeld=>?_);clear hK K;try simp only[Act.put,Qa,Qb,Qc]
      refine wpAnyH_done (by kernel_rfl) ?_ _;try go_wp2
      go_meet;exact⟨g4,_,_,rfl,n4,n2,oS.mem hbS,oI.mem hbI,hR,hn4S,hn4I,by first|exact hne|exact hne.symm|exact fun e=>hne e.symm,hb4,hHeld⟩
     exact AllReadyH.nil
    exact AllReadyH.nil
   refine AllReadyH.cons rfl (fun K hK=>?_) ?_
   ·obtain⟨wx4,hmk4,oI,hk4⟩:=HMI.out _;skip;refine AV (d:=13) (by rfl) (by rfl) (.tmp 12) 33 (by rfl) _ (by rfl) hmk4 ?_;clear hmk4;have hbI:=Nat.le_trans hHeld.size oI.lt1.1;have hn4I:=Nat.ne_of_lt (Qd n4.lt oI.lt1.1);replace hR:=hR.keptK hk4 (fun h=>h);replace n2:=n2.kept hk4 (fun h=>h);replace n4:=n4.kept hk4 (fun h=>h);refine hK.out _ _ (hHeld.thenN hk4) (fun hHeld=>?_);clear hK K;try simp only[Act.put,Qa,Qb,Qc]
    refine wpAnyH_ready (rs:=[1]) (by kernel_rfl) (by simp) ?_;refine AllReadyH.cons rfl (fun K hK=>?_) ?_
    ·obtain⟨wx1,hmk1,oS,hk1⟩:=HMS.out _;skip;refine AV (d:=10) (by rfl) (by rfl) (.tmp 9) 32 (by rfl) _ (by rfl) hmk1 ?_;clear hmk1;have hbS:=Nat.le_trans hHeld.size oS.lt1.1;have hne:=Nat.ne_of_lt (Qd oI.lt1.2 oS.lt1.1);have hn4S:=Nat.ne_of_lt (Qd n4.lt oS.lt1.1);replace hR:=hR.keptK hk1 (fun h=>h);replace n2:=n2.kept hk1 (fun h=>h);replace oI:=oI.keptN hk1;replace n4:=n4.kept hk1 (fun h=>h);refine hK.out _ _ (hHeld.thenN hk1) (fun hHeld=>?_);clear hK K
     try simp only[Act.put,Qa,Qb,Qc]
     refine Aa (i:=5) (d:=14) (v:=?_) rfl rfl (by kernel_rfl) (by kernel_rfl) (by kernel_rfl) (fun _ _ _ h=>h) (Or.inl ⟨by rfl,?_⟩) (by assumption) ?_;rotate_left
     ·intro W hSW;try dsimp only at hSW
      go_simp;try with_reducible rfl
     try simp only[Act.put,Qa,Qb,Qc]
     refine wpAnyH_ready (rs:=[7]) (by kernel_rfl) (by simp) ?_;refine AllReadyH.cons rfl (fun K hK=>?_) ?_
     ·refine Ah (by rfl) (by rfl) (.tmp 4) (.tmp 14) (by rfl) g4 (by rfl) (by rfl) n4 ?_;clear n4;intro wx7 n4 hk7;replace oS:=oS.kept hk7 (fun z hz e=>by have hg:=Option.some.inj hz;unfold only at e;exact hn4S (e.symm.trans hg.symm));replace oI:=oI.kept hk7 (fun z hz e=>by have hg:=Option.some.inj hz;unfold only at e;exact hn4I (e.symm.trans hg.symm));replace hR:=hR.keptK hk7 (fun e=>by unfold only at e;have:=HLT.out;omega);replace n2:=Aw n2 (by have:=HLT.out;omega) hk7
      refine hK.out _ _ (Ax hHeld hb4 hk7) (fun hHeld=>?_);clear hK K;try simp only[Act.put,Qa,Qb,Qc]
      refine wpAnyH_done (by kernel_rfl) ?_ _;try go_wp2
      go_meet;exact⟨g4,_,_,rfl,n4,n2,oS.mem hbS,oI.mem hbI,hR,hn4S,hn4I,by first|exact hne|exact hne.symm|exact fun e=>hne e.symm,hb4,hHeld⟩
     exact AllReadyH.nil
    exact AllReadyH.nil
   exact AllReadyH.nil
  exact AllReadyH.nil
set_option maxRecDepth 100000 in
theorem Bx{w:World}{ops:Array Oper}{o:Oper}{a:Act}{K:Act->World->Prop}{Q:Exit->Act->World->Prop}{E:Prop}{d:Nat}(hgd:o.guard=none)(hd:o.dst=some d)(x:Operand)(ho:o.op=.buildSlice 168 1 #[(0,x)]){a1:Option Addr}{n1 c1:Nat}(hx:a.eval x=.slice a1 n1 c1)
  (h:∀W' g,Sl (fun x:Value=>x) (g+1) W' (.slice (some ⟨g,0,none⟩) 1 1) [.slice a1 n1 c1]->Kp none' w W'->w.heap.size<=g->K (a.put (some d) (.slice (some ⟨g,0,none⟩) 1 1)) W') :
  if Region.wanted o (yielded ops a.tmps)=true then Oper.wp prog o a w K Q else E:=by
 have hw:Region.wanted o (yielded ops a.tmps)=true:=by simp[Region.wanted,hgd]
 rw[if_pos hw];have h1:=h _ w.heap.size (BI w [.slice a1 n1 c1] 31 w.heap.size 1 rfl rfl (by omega)) (Kp.alloc _ _ _) (Nat.le_refl _);clear h;obtain⟨dst,op,type,pos,after,guard⟩:=o;dsimp only at hgd hd ho;subst hgd hd ho;unfold Oper.wp execOp;dsimp only;simp only[List.map_toArray,List.map_cons,List.map_nil,hx];go_simp;first|exact h1|(simp only[Act.put]at h1 |-;exact h1)
set_option maxRecDepth 100000 in
theorem Fu{w:World}{ops:Array Oper}{o:Oper}{a:Act}{K:Act->World->Prop}{Q:Exit->Act->World->Prop}{E:Prop}{d:Nat}(hgd:o.guard=none)(hd:o.dst=some d)(x:Operand)(ho:o.op=.buildSlice 32 1 #[(0,x)]){s:ByteArray}(hx:a.eval x=.string s)
  (h:∀W' g,Sl Value.string (g+1) W' (.slice (some ⟨g,0,none⟩) 1 1) [s]->Kp none' w W'->w.heap.size<=g->K (a.put (some d) (.slice (some ⟨g,0,none⟩) 1 1)) W') :
  if Region.wanted o (yielded ops a.tmps)=true then Oper.wp prog o a w K Q else E:=by
 have hw:Region.wanted o (yielded ops a.tmps)=true:=by simp[Region.wanted,hgd]
 rw[if_pos hw];have hS:Sl Value.string (w.heap.size+1) (w.alloc (.cells #[.string s] 9)) (.slice (some ⟨w.heap.size,0,none⟩) 1 1) [s]:=by
  refine⟨_,_,rfl,by simp,by unfold maxLen;omega,fun i hi=>⟨w.heap.size,0,rfl,by omega,?_⟩⟩;have h:=heap_alloc_new w (.cells #[.string s] 9);have hi0:i=0:=by simpa using hi
  subst hi0;rw[cell_of_row _ w.heap.size (0+0) _ 9 (0,0) h];rfl
 have h1:=h _ w.heap.size hS (Kp.alloc _ _ _) (Nat.le_refl _);clear h;obtain⟨dst,op,type,pos,after,guard⟩:=o;dsimp only at hgd hd ho;subst hgd hd ho;unfold Oper.wp execOp;dsimp only;simp only[List.map_toArray,List.map_cons,List.map_nil,hx];go_simp;first|exact h1|(simp only[Act.put]at h1 |-;exact h1)
set_option maxRecDepth 100000 in
theorem CA{w:World}{ops:Array Oper}{o:Oper}{a:Act}{K:Act->World->Prop}{Q:Exit->Act->World->Prop}{E:Prop}{d:Nat}(hgd:o.guard=none)(hd:o.dst=some d)(x y z:Operand)(ho:o.op=.buildSlice 271 3 #[(0,x),(1,y),(2,z)]){a1 a2 a3:Option Addr}{n1 c1 n2 c2 n3 c3:Nat}(hx:a.eval x=.slice a1 n1 c1)(hy:a.eval y=.slice a2 n2 c2)(hz:a.eval z=.slice a3 n3 c3)
  (h:∀W' g,Sl (fun x:Value=>x) (g+1) W' (.slice (some ⟨g,0,none⟩) 3 3) [.slice a1 n1 c1,.slice a2 n2 c2,.slice a3 n3 c3]->Kp none' w W'->w.heap.size<=g->K (a.put (some d) (.slice (some ⟨g,0,none⟩) 3 3)) W') :
  if Region.wanted o (yielded ops a.tmps)=true then Oper.wp prog o a w K Q else E:=by
 have hw:Region.wanted o (yielded ops a.tmps)=true:=by simp[Region.wanted,hgd]
 rw[if_pos hw];have h1:=h _ w.heap.size (BI w [.slice a1 n1 c1,.slice a2 n2 c2,.slice a3 n3 c3] 32 w.heap.size 3 rfl rfl (by omega)) (Kp.alloc _ _ _) (Nat.le_refl _);clear h;obtain⟨dst,op,type,pos,after,guard⟩:=o;dsimp only at hgd hd ho;subst hgd hd ho;unfold Oper.wp execOp;dsimp only;simp only[List.map_toArray,List.map_cons,List.map_nil,hx,hy,hz];go_simp;first|exact h1|(simp only[Act.put]at h1 |-;exact h1)
set_option maxRecDepth 100000 in
theorem BG{w:World}{ops:Array Oper}{o:Oper}{a:Act}{K:Act->World->Prop}{Q:Exit->Act->World->Prop}{E:Prop}{d:Nat}(hgd:o.guard=none)(hd:o.dst=some d)(x y:Operand)(ho:o.op=.buildSlice 273 2 #[(0,x),(1,y)]){a1 a2:Option Addr}{n1 c1 n2 c2:Nat}(hx:a.eval x=.slice a1 n1 c1)(hy:a.eval y=.slice a2 n2 c2)
  (h:∀W' g,Sl (fun x:Value=>x) (g+1) W' (.slice (some ⟨g,0,none⟩) 2 2) [.slice a1 n1 c1,.slice a2 n2 c2]->Kp none' w W'->w.heap.size<=g->K (a.put (some d) (.slice (some ⟨g,0,none⟩) 2 2)) W') :
  if Region.wanted o (yielded ops a.tmps)=true then Oper.wp prog o a w K Q else E:=by
 have hw:Region.wanted o (yielded ops a.tmps)=true:=by simp[Region.wanted,hgd]
 rw[if_pos hw];have h1:=h _ w.heap.size (BI w [.slice a1 n1 c1,.slice a2 n2 c2] 33 w.heap.size 2 rfl rfl (by omega)) (Kp.alloc _ _ _) (Nat.le_refl _);clear h;obtain⟨dst,op,type,pos,after,guard⟩:=o;dsimp only at hgd hd ho;subst hgd hd ho;unfold Oper.wp execOp;dsimp only;simp only[List.map_toArray,List.map_cons,List.map_nil,hx,hy];go_simp;first|exact h1|(simp only[Act.put]at h1 |-;exact h1)
theorem Af{w:World}{ops:Array Oper}{rest:List Oper}{o:Oper}{a:Act}{Q:Exit->Act->World->Prop}(hgd:o.guard=none)(hd:o.dst=none)(p x:Operand)(ho:o.op=.store 35 p x)(g:Nat)(hp:a.eval p=.pointer (some ⟨g,0,none⟩)){l l':Bool}{pv kv dv:Value}{a1 a2 a3:Option Addr}{n1 c1 n2 c2 n3 c3:Nat}
  (hx:a.eval x=.agg #[.bool l',.slice a1 n1 c1,.slice a2 n2 c2,.slice a3 n3 c3]) (hN:Nb w g l pv kv dv)
  (h:∀W',Nb W' g l' (.slice a1 n1 c1) (.slice a2 n2 c2) (.slice a3 n3 c3)->Kp (only g) w W'->wpList prog ops Q rest a W'):wpList prog ops Q (o::rest) a w:=by
 refine wpList_plain hgd fun K hK=>?_;have:=Ah (ops:=#[]) (K:=K) (Q:=Q) (E:=True) hgd hd p x ho g hp hx hN (fun W' h1 h2=>hK _ _ (h W' h1 h2));have hw:Region.wanted o (yielded #[] a.tmps)=true:=by simp[Region.wanted,hgd]
 rw[if_pos hw]at this;exact this
theorem Cl{α:Type}{f:α->Value}{e:TypeId}{w:World}{base:Nat}{v:Value}{l:List α}(h:Ow f e w base v l):∃a m c,v=.slice a m c:=by
 obtain⟨a,c,rfl,_⟩:=h.sl;exact⟨_,_,_,rfl⟩
theorem Ma{w:World}{base:Nat}{v:Value}{l:List Pr}(h:OwP w base v l):∃a m c,v=.slice a m c:=by
 obtain⟨a,c,rfl,_⟩:=h.prs;exact⟨_,_,_,rfl⟩
set_option maxRecDepth 100000 in
theorem Gj(v dv:Value)(ks:List ByteArray)(kd:List Int)(B:Nat)(w:World)(hS:Sl Value.string B w v ks)(hD:Sl (Value.int .i64) B w dv kd)(hk:ks.length<=100000000)(hd:kd.length<=100000000) :
  Calls prog 200 #[v,dv] w fun e w'=>∃a m c a' m' c',e=.returned (.agg #[.bool false,.slice none 0 0,.slice a m c,.slice a' m' c'])/\Ow Value.string 9 w' w.heap.size (.slice a m c) ks/\Ow (Value.int .i64) 3 w' w.heap.size (.slice a' m' c') kd/\Kp none' w w':=by
 have hK0:Kp none' w (w.alloc (.cells #[.bool false,.slice none 0 0,.slice none 0 0,.slice none 0 0] 35)):=Kp.alloc _ _ _;have hr0:=Nb.new w false (.slice none 0 0) (.slice none 0 0) (.slice none 0 0);have HA:Hid (∀W:World,Kp none' w W->Calls prog 202 #[v] W fun e w'=>∃a m c,e=.returned (.slice a m c)/\Ow Value.string 9 w' W.heap.size (.slice a m c) ks/\Kp none' W w'):=by
  intro W hk';refine(KP v ks B W (hS.keptN hk') hk).mono ?_;rintro e w' ⟨v',rfl,hO,hK⟩;obtain⟨a,m,c,rfl⟩:=Cl hO;exact⟨a,m,c,rfl,hO,hK⟩
 have HB:Hid (∀W:World,Kp none' w W->Calls prog 132 #[dv] W fun e w'=>∃a m c,e=.returned (.slice a m c)/\Ow (Value.int .i64) 3 w' W.heap.size (.slice a m c) kd/\Kp none' W w'):=by
  intro W hk';refine(GM dv kd B W (hD.keptN hk') hd).mono ?_;rintro e w' ⟨v',rfl,hO,hK⟩;obtain⟨a,m,c,rfl⟩:=Cl hO;exact⟨a,m,c,rfl,hO,hK⟩
 have HLT:Hid (w.heap.size<(w.alloc (.cells #[.bool false,.slice none 0 0,.slice none 0 0,.slice none 0 0] 35)).heap.size):=hr0.lt;clear hS hD;go_enter func200,ntmps200;go_upto_region 1 with fail;generalize w.alloc (.cells #[.bool false,.slice none 0 0,.slice none 0 0,.slice none 0 0] 35)=w0 at *;have HFR:=hide hr0;clear hr0;go_wp2_with (first
  | (go_at_call 202;refine(HA.out _ hK0).mono ?_;rintro e w1 ⟨a1,m1,c1,rfl,hO1,hK1⟩)
  | (go_at_call 132;refine(HB.out _ (hK0.thenN hK1)).mono ?_;rintro e w2 ⟨a2,m2,c2,rfl,hO2,hK2⟩;have hr1:=HFR.out.kept (hK1.thenN hK2) (fun h=>h))
  | (refine Af rfl rfl (.tmp 4) (.tmp 9) rfl w.heap.size rfl rfl hr1 ?_;clear hr1;intro w3 hr1 hK3)
  | fail)
 refine bodyPost_ret (As rfl _ w.heap.size _ rfl hr1) rfl ?_;have h1:=hK0.size;have h2:=hK1.size;refine⟨a1,m1,c1,a2,m2,c2,rfl,((hO1.keptN hK2).kept hK3 (fun k hk h=>by have:=(hO1.lt k hk).1;have:=HLT.out;unfold only at h;omega)).mem (by omega),(hO2.kept hK3 (fun k hk h=>by have:=(hO2.lt k hk).1;have:=HLT.out;unfold only at h;omega)).mem (by omega),(hK0.thenN (hK1.thenN hK2)).trans hK3 (fun _ _ h=>h) (fun z hz hzo=>by unfold only at hzo;omega)⟩
end Go.Proofs.YtgcgacjhkhjhmaaGreatDoor
