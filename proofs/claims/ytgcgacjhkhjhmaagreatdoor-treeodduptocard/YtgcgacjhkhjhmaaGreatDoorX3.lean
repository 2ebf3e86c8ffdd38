/- Part of the proof: contracts over the turned program. -/
import Derived.Test.YtgcgacjhkhjhmaaGreatDoorX2
set_option linter.unusedVariables false
set_option maxHeartbeats 4000000
open Go.Proofs.Tryz
namespace Go.Proofs.YtgcgacjhkhjhmaaGreatDoor
open Go Go.RowKit
set_option maxRecDepth 100000 in
theorem Kb(x:Value)(n:Nd)(B:Nat)(w:World)(hN:Nv B w x n)(hl:n.leaf=true) :
  Calls prog 26 #[x] w fun e w'=>e=.returned (.bool n.right)/\Kp none' w w':=by
 obtain⟨⟨pv,kv,dv,rfl,hP,hS,hD⟩,hwf⟩:=hN;have hb:=Nb.new w n.leaf pv kv dv;have hwp:=hwf.p;obtain⟨lf,ps,ks,kd⟩:=n;dsimp only at *;subst hl;have hK0:Kp none' w (w.alloc (.cells #[.bool true,pv,kv,dv] 35)):=Kp.alloc _ _ _;obtain⟨a,c,rfl,hlc,hcm,_⟩:=hD;obtain⟨a2,c2,rfl,hlc2,hcm2,_⟩:=hS;unfold maxLen at hcm hcm2;have HR:Hid ((⟨true,ps,ks,kd⟩:Nd).right=(ks.isEmpty&&kd.isEmpty&&okPs ps)):=by
  show _=_;simp only[Nd.right,okPs,if_true];cases ks.isEmpty<;>cases kd.isEmpty<;>simp
 rw[HR.out];clear HR;have hb0:=hb.c0;have hb1:=hb.c1;have hb2:=hb.c2;have hb3:=hb.c3;have hP1:=hP.keptN hK0;by_cases hp:ks.length=0
 ·have HP:Hid (ks.isEmpty=true):=by rw[List.length_eq_zero_iff]at hp;rw[hp];rfl
  have hp':((ks.length:Int)==0)=true:=by simp[hp]
  by_cases hq:kd.length=0
  ·have HQ:Hid (kd.isEmpty=true):=by rw[List.length_eq_zero_iff]at hq;rw[hq];rfl
   have hq':((kd.length:Int)==0)=true:=by simp[hq]
   clear hp hq;go_enter func26,ntmps26;go_wp2_with (go_at_call 47;refine(FD pv ps B _ hP1 hwp).mono ?_;rintro e w' ⟨rfl,hK'⟩);go_ret;rw[HP.out,HQ.out];exact⟨by simp,hK0.thenN hK'⟩
  ·have HQ:Hid (kd.isEmpty=false):=by cases kd with|nil=>simp at hq|cons _ _=>rfl
   have hq':((kd.length:Int)==0)=false:=by simp;intro h;rw[h]at hq;simp at hq
   clear hp hq;go_enter func26,ntmps26;go_wp2;go_ret;rw[HP.out,HQ.out];exact⟨by simp,hK0⟩
 ·have HP:Hid (ks.isEmpty=false):=by cases ks with|nil=>simp at hp|cons _ _=>rfl
  have hp':((ks.length:Int)==0)=false:=by simp;intro h;rw[h]at hp;simp at hp
  clear hp;go_enter func26,ntmps26;go_wp2;go_ret;rw[HP.out];exact⟨by simp,hK0⟩
set_option maxRecDepth 100000 in
theorem IM(x:Value)(n:Nd)(B:Nat)(w:World)(hN:Nv B w x n)(hl:n.leaf=false) :
  Calls prog 26 #[x] w fun e w'=>e=.returned (.bool n.right)/\Kp none' w w':=by
 obtain⟨⟨pv,kv,dv,rfl,hP,hS,hD⟩,hwf⟩:=hN;have hb:=Nb.new w n.leaf pv kv dv;have hwd:=hide hwf.d;obtain⟨lf,ps,ks,kd⟩:=n;dsimp only at *;subst hl;have hK0:Kp none' w (w.alloc (.cells #[.bool false,pv,kv,dv] 35)):=Kp.alloc _ _ _;have hS1:=hS.keptN hK0;have hD1:=hD.keptN hK0;obtain⟨a,c,rfl,hlc,hcm,_⟩:=hD;obtain⟨a1,c1,rfl,hlc1,hcm1,_⟩:=hP;obtain⟨a2,c2,rfl,hlc2,hcm2,_⟩:=hS;unfold maxLen at hcm hcm1 hcm2
 have HR:Hid ((⟨false,ps,ks,kd⟩:Nd).right=(ps.isEmpty&&ordN ks&&decide (kd.length=ks.length+1)&&kd.all okD)):=by
  show _=_;simp only[Nd.right,Bool.false_eq_true,if_false];cases ps.isEmpty<;>cases ordN ks<;>cases decide (kd.length=ks.length+1)<;>simp
 rw[HR.out];clear HR;generalize hw0:w.alloc (.cells #[.bool false,.slice a1 ps.length c1,.slice a2 ks.length c2,.slice a kd.length c] 35)=w0 at *;have hb0:=hb.c0;have hb1:=hb.c1;have hb2:=hb.c2;have hb3:=hb.c3;by_cases hp:ps.length=0
 ·have HP:Hid (ps.isEmpty=true):=by rw[List.length_eq_zero_iff]at hp;rw[hp];rfl
  have hp':((ps.length:Int)==0)=true:=by simp[hp]
  cases ho:ordN ks with
  | true =>
   by_cases hq:kd.length=ks.length+1
   ·have hq':((kd.length:Int)==wrap64 ((ks.length:Int)+1))=true:=by rw[beq_iff_eq];unfold wrap64;omega
    have HQ:Hid (decide (kd.length=ks.length+1)=true):=by show _=_;simp[hq]
    clear hp hq;rw[<-hw0]at hb hb0 hb1 hb2 hb3 hS1 hD1 hK0;clear hw0 w0;go_enter func26,ntmps26;go_wp2_with (first
     | (go_at_call 48;refine(B4 _ ks B _ hS1).mono ?_;rintro e w' ⟨rfl,hK'⟩;rw[ho];have hb2':=(hb.kept hK' (fun h=>h)).c2;have hb3':=(hb.kept hK' (fun h=>h)).c3)
     | (go_at_call 49;refine(FU _ kd B _ (hD1.keptN hK') hwd.out).mono ?_;rintro e w2 ⟨rfl,hK2⟩))
    go_ret;rw[HP.out,HQ.out];exact⟨by simp,hK0.thenN (hK'.thenN hK2)⟩
   ·have hq':((kd.length:Int)==wrap64 ((ks.length:Int)+1))=false:=by rw[beq_eq_false_iff_ne];unfold wrap64;omega
    have HQ:Hid (decide (kd.length=ks.length+1)=false):=by show _=_;simp[hq]
    clear hp hq;rw[<-hw0]at hb hb0 hb1 hb2 hb3 hS1 hD1 hK0;clear hw0 w0;go_enter func26,ntmps26;go_wp2_with (first
     | (go_at_call 48;refine(B4 _ ks B _ hS1).mono ?_;rintro e w' ⟨rfl,hK'⟩;rw[ho];have hb2':=(hb.kept hK' (fun h=>h)).c2;have hb3':=(hb.kept hK' (fun h=>h)).c3)
     | fail)
    go_ret;rw[HP.out,HQ.out];exact⟨by simp,hK0.thenN hK'⟩
  | false =>
   clear hp;rw[<-hw0]at hb hb0 hb1 hb2 hb3 hS1 hD1 hK0;clear hw0 w0;go_enter func26,ntmps26;go_wp2_with (first
    | (go_at_call 48;refine(B4 _ ks B _ hS1).mono ?_;rintro e w' ⟨rfl,hK'⟩;rw[ho])
    | fail)
   go_ret;rw[HP.out];exact⟨by simp,hK0.thenN hK'⟩
 ·have HP:Hid (ps.isEmpty=false):=by cases ps with|nil=>simp at hp|cons _ _=>rfl
  have hp':((ps.length:Int)==0)=false:=by simp;intro h;rw[h]at hp;simp at hp
  clear hp;rw[<-hw0]at hb hb0 hb1 hb2 hb3 hS1 hD1 hK0;clear hw0 w0;go_enter func26,ntmps26;go_wp2;go_ret;rw[HP.out];exact⟨by simp,hK0⟩
theorem Cw(x:Value)(n:Nd)(B:Nat)(w:World)(hN:Nv B w x n) :
  Calls prog 26 #[x] w fun e w'=>e=.returned (.bool n.right)/\Kp none' w w':=by
 cases h:n.leaf with
 | true=>exact Kb x n B w hN h
 | false=>exact IM x n B w hN h
theorem Fr.kpN{w:World}{v:Value}{w':World}{v':Value}(h:Fr w v w' v'){B:Nat}(hv:∀k,v.ownBlock=some k->B<=k):Kp (fun k=>B<=k) w w':=Kp.ofGrown h.1 (fun k hk _=>hv k hk)
theorem Fr.new{w:World}{v:Value}{w':World}{v':Value}(h:Fr w v w' v'){B:Nat}(hB:B<=w.heap.size)(hv:∀k,v.ownBlock=some k->B<=k):∀k,v'.ownBlock=some k->B<=k:=by
 intro k hk;rcases h.2 with e|⟨g,e,hg⟩
 ·rw[e]at hk;exact hv k hk
 ·rw[e]at hk;cases hk;omega
set_option maxRecDepth 100000 in
theorem FV(v:Value)(ps:List Pr)(B:Nat)(w:World)(hP:Prs B w v ps)(hwp:∀x∈ps,x.k.size<=maxLen/\x.v.size<=maxLen)(hB:B<=w.heap.size)(hl:ps.length<=255) :
  Calls prog 54 #[v] w fun e w'=>∃v',e=.returned v'/\Own 5 w' w.heap.size v' ([1,UInt8.ofNat ps.length]++encPs ps)/\Kp none' w w':=by
 have hP':=hP;obtain⟨a,c,rfl,hlc,hcm,ha⟩:=hP;unfold maxLen at hcm;have HA:Hid (∀i (h:i<ps.length),∃b off,a=some ⟨b,off,none⟩/\b<B/\w.cell? ⟨b,off+i*2,none⟩=some (.string ps[i].k)/\w.cell? ⟨b,off+i*2+1,none⟩=some (.string ps[i].v)):=ha;clear ha;have e1:be 1 (wid 1)=[1]:=rfl;have HE2:Hid (be ps.length (wid 1)=[UInt8.ofNat ps.length]):=by
  show [UInt8.ofNat (ps.length / 2 ^ (8*0))]=_;simp
 have Hn:Hid (((ps.length:Nat):Int)<18446744073709551616):=by show _<_;omega
 have hcv:IntKind.u64.wrap (ps.length:Int)=(ps.length:Int):=by rw[IntKind.wrap_u64];omega
 have H1:Hid (∀W:World,w.heap.size<=W.heap.size->Calls prog 86 #[.slice none 0 0,.int .u64 1,.int .i64 1] W fun e w'=>∃v',e=.returned v'/\Own 5 w' w.heap.size v' [1]/\Fr W (.slice none 0 0) w' v'):=by
  intro W hW;have:=DP (.slice none 0 0) [] 1 1 w.heap.size W (by omega) (Own.nil _ _ _) hW (by simp);exact this
 have H2:Hid (∀(W:World) (b:Value) (z:Int),z=(ps.length:Int)->w.heap.size<=W.heap.size->Own 5 W w.heap.size b [1]->Calls prog 86 #[b,.int .u64 z,.int .i64 1] W fun e w'=>∃v',e=.returned v'/\Own 5 w' w.heap.size v' ([1]++[UInt8.ofNat ps.length])/\Fr W b w' v'):=by
  intro W b z hz hW hO;subst hz;have:=DP b [1] ps.length 1 w.heap.size W Hn.out hO hW (by simp);rw[HE2.out]at this;exact this
 clear Hn;go_enter func54,ntmps54;go_upto_region 2 with (first
  | (go_at_call 86;refine(H1.out _ (Nat.le_refl _)).mono ?_;rintro e w1 ⟨v1,rfl,hO1,hF1⟩)
  | fail)
 have hk1:Kp none' w w1:=Kp.ofGrown hF1.1 (fun k hk _=>by cases hk);have hn1:=hF1.new (Nat.le_refl _) (fun k hk=>by cases hk);have hs1:=hk1.size;go_wp2_with (first
  | (go_at_call 86;refine(H2.out _ v1 _ (by first|with_reducible rfl|(rw[IntKind.wrap_u64];omega)|omega) hs1 hO1).mono ?_;rintro e w2 ⟨v2,rfl,hO2,hF2⟩)
  | fail)
 have hk2:Kp none' w w2:=hk1.trans (hF2.kpN hn1) (fun _ _ h=>h) (fun k hk h=>absurd hk (by omega));have hn2:=hF2.new hs1 hn1;clear H1 H2 hF1 hF2 hO1 hk1 hn1;go_loopw [3,5,14] (fun b _ u wr=>∃j:Nat,j<=ps.length/\u=.int .i64 j/\Own 5 wr w.heap.size b (([1]++[UInt8.ofNat ps.length])++encPs (ps.take j))/\Kp none' w wr) (fun _ _ u _=>ps.length - (intOf u).toNat)
 case atStart=>exact⟨0,Nat.zero_le _,rfl,by simpa[encPs]using hO2,hk2⟩
 case round =>
  obtain⟨j,hj,rfl,hO,hK⟩:=hrel;by_cases hlt:j<ps.length
  ·obtain⟨b,o,rfl,_,hc',hd'⟩:=HA.out j hlt;have hc:=hK.cell hc' (fun h=>h);have hd:=hK.cell hd' (fun h=>h);clear hc' hd';have hlt':(j:Int)<(ps.length:Int):=by omega
   have HW:=hide (hwp _ (List.getElem_mem hlt));have HT:Hid (encPs (ps.take (j+1))=encPs (ps.take j)++(strB ps[j].k.data.toList++strB ps[j].v.data.toList)):=by
    show _=_;rw[List.take_succ_eq_append_getElem hlt,Dk];rfl
   have hlenE:∀q:List Pr,(encPs q).length<=512*q.length:=by
    intro q;induction q with
    | nil=>simp[encPs]
    | cons p q ih =>
     have h1:=CV p.k.data.toList;have h2:=CV p.v.data.toList;show (encPr p++encPs q).length<=512*(q.length+1);unfold encPr;rw[List.length_append,List.length_append];omega
   have HL:Hid ((([1]++[UInt8.ofNat ps.length])++encPs (ps.take j)).length<=140000):=by
    have h1:=hlenE (ps.take j);rw[List.length_take]at h1;show _<=_;simp only[List.length_append,List.length_cons,List.length_nil];omega
   clear hlenE;generalize ps[j]=y at *;obtain⟨M,HM⟩:∃M,Hid ((([1]++[UInt8.ofNat ps.length])++encPs (ps.take j))=M):=⟨(([1]++[UInt8.ofNat ps.length])++encPs (ps.take j)),hide rfl⟩;rw[HM.out]at hO HL;have hKa:Kp none' wr (wr.alloc (.cells #[.string y.k,.string y.v] 92)):=Kp.alloc _ _ _;have hOa:=hO.alloc (.cells #[.string y.k,.string y.v] 92);have hnw:∀k,u3.ownBlock=some k->w.heap.size<=k:=fun k hk=>(hO.lt k hk).1
   have hsw:w.heap.size<=(wr.alloc (.cells #[.string y.k,.string y.v] 92)).heap.size:=Nat.le_trans hK.size hKa.size;have hpn:=PT wr y;have hbn:(wr.alloc (.cells #[.string y.k,.string y.v] 92)).heap.size=wr.heap.size+1:=by simp
   go_upto_region 7 with (first
    | (go_at_call 87;refine(Ia u3 M y.k w.heap.size _ HW.out.1 hOa hsw (by have:=HL.out;omega)).mono ?_;rintro e w3 ⟨v3,rfl,hO3,hF3⟩)
    | fail)
   have hk3:Kp none' w w3:=(hK.thenN hKa).trans (hF3.kpN hnw) (fun _ _ h=>h) (fun k hk h=>absurd hk (by omega));have hn3:=hF3.new hsw hnw;have hdn:w3.cell? ⟨wr.heap.size,1,none⟩=some (.string y.v):=(Kp.ofGrown hF3.1 (S:=fun k=>u3.ownBlock=some k) (fun k hk _=>hk)).cell hpn.2 (fun h=>by have:=(hO.lt _ h).2;omega);have hs3:=hk3.size;clear hc hd hpn;go_wp2_with (first
    | (go_at_call 87;refine(Ia v3 (M++strB y.k.data.toList) y.v w.heap.size _ HW.out.2 hO3 hs3 (by have:=HL.out;have:=CV y.k.data.toList;rw[List.length_append];omega)).mono ?_;rintro e w4 ⟨v4,rfl,hO4,hF4⟩)
    | fail)
   have hk4:Kp none' w w4:=hk3.trans (hF4.kpN hn3) (fun _ _ h=>h) (fun k hk h=>absurd hk (by omega));go_roundw
   case rel =>
    refine⟨j+1,by omega,by go_num,?_,hk4⟩;rw[HT.out,<-List.append_assoc,HM.out,<-List.append_assoc];exact hO4
   case measure=>simp[intOf];omega
  ·have hlt':¬(j:Int)<(ps.length:Int):=by omega
   have hje:j=ps.length:=by omega
   rw[hje,List.take_length]at hO;clear hje;go_wp2;go_ret;exact⟨_,rfl,hO,hK⟩
set_option maxRecDepth 100000 in
theorem Fe(v dv:Value)(ks:List ByteArray)(kd:List Int)(B:Nat)(w:World)(hS:Sl Value.string B w v ks)(hD:Sl (Value.int .i64) B w dv kd)(hwk:∀x∈ks,x.size<=maxLen)(hwd:∀d∈kd,1<=d/\d<=65535)(hB:B<=w.heap.size)(hl:ks.length<=255)(hlen:kd.length=ks.length+1)(G:List UInt8)(hG:[2,UInt8.ofNat ks.length]++be (kd.headD 0).toNat 2++encKs ks kd.tail=G) :
  Calls prog 55 #[v,dv] w fun e w'=>∃v',e=.returned v'/\Own 5 w' w.heap.size v' G/\Kp none' w w':=by
 obtain⟨a,c,rfl,hlc,hcm,ha⟩:=hS;obtain⟨a2,c2,rfl,hlc2,hcm2,ha2⟩:=hD;unfold maxLen at hcm hcm2;have HA:Hid (∀i (h:i<ks.length),∃b off,a=some ⟨b,off,none⟩/\b<B/\w.cell? ⟨b,off+i,none⟩=some (.string ks[i])):=ha;have HD:Hid (∀i (h:i<kd.length),∃b off,a2=some ⟨b,off,none⟩/\b<B/\w.cell? ⟨b,off+i,none⟩=some (.int .i64 kd[i])):=ha2;have HWd:=hide hwd;have HKL:=hide hlen;have HG0:=hide hG;clear hG;clear ha ha2 hwd;obtain⟨d,ds,hkd⟩:∃d m',kd=d::m':=by
  cases hk:kd with
  | nil=>rw[hk]at hlen;simp at hlen
  | cons d m'=>exact⟨d,m',rfl⟩
 obtain⟨b2,o2,ea2,_,hc0⟩:=HD.out 0 (by omega);subst ea2;have Hd1:Hid (1<=d/\d<=65535):=HWd.out d (by rw[hkd];simp);obtain⟨q0,Hq0⟩:∃q:Nat,Hid (d=(q:Int)/\q<65536):=⟨d.toNat,by have:=Hd1.out;show _/\_;omega⟩;have hc0':w.cell? ⟨b2,o2,none⟩=some (.int .i64 (q0:Int)):=by
  rw[show kd[0]'(by omega)=d by simp[hkd],Hq0.out.1]at hc0;exact hc0
 clear hc0;have HE2:Hid (be ks.length (wid 1)=[UInt8.ofNat ks.length]):=by
  show [UInt8.ofNat (ks.length / 2 ^ (8*0))]=_;simp
 have H1:Hid (∀W:World,w.heap.size<=W.heap.size->Calls prog 86 #[.slice none 0 0,.int .u64 2,.int .i64 1] W fun e w'=>∃v',e=.returned v'/\Own 5 w' w.heap.size v' [2]/\Fr W (.slice none 0 0) w' v'):=by
  intro W hW;have:=DP (.slice none 0 0) [] 2 1 w.heap.size W (by omega) (Own.nil _ _ _) hW (by simp);exact this
 have H2:Hid (∀(W:World) (b:Value) (z:Int),z=(ks.length:Int)->w.heap.size<=W.heap.size->Own 5 W w.heap.size b [2]->Calls prog 86 #[b,.int .u64 z,.int .i64 1] W fun e w'=>∃v',e=.returned v'/\Own 5 w' w.heap.size v' ([2]++[UInt8.ofNat ks.length])/\Fr W b w' v'):=by
  intro W b z hz hW hO;subst hz;have:=DP b [2] ks.length 1 w.heap.size W (by omega) hO hW (by simp);rw[HE2.out]at this;exact this
 have H3:Hid (∀(W:World) (b:Value) (l:List UInt8) (y:Nat) (z:Int),y<65536->z=(y:Int)->w.heap.size<=W.heap.size->l.length<=140000->Own 5 W w.heap.size b l->Calls prog 86 #[b,.int .u64 z,.int .i64 2] W fun e w'=>∃v',e=.returned v'/\Own 5 w' w.heap.size v' (l++be y 2)/\Fr W b w' v'):=by
  intro W b l y z hy hz hW hL hO;subst hz;exact DP b l y 2 w.heap.size W (by omega) hO hW (by omega)
 have HKD:=hide hkd;have hk0:(0:Int)<(kd.length:Int):=by omega
 clear hkd hlen;go_enter func55,ntmps55;go_upto_region 2 with (first
  | (go_at_call 86;refine(H1.out _ (Nat.le_refl _)).mono ?_;rintro e w1 ⟨v1,rfl,hO1,hF1⟩)
  | fail)
 have hk1:Kp none' w w1:=Kp.ofGrown hF1.1 (fun k hk _=>by cases hk);have hn1:=hF1.new (Nat.le_refl _) (fun k hk=>by cases hk);have hs1:=hk1.size;go_upto_region 3 with (first
  | (go_at_call 86;refine(H2.out _ v1 _ (by first|with_reducible rfl|(rw[IntKind.wrap_u64];omega)|omega) hs1 hO1).mono ?_;rintro e w2 ⟨v2,rfl,hO2,hF2⟩)
  | fail)
 have hk2:Kp none' w w2:=hk1.trans (hF2.kpN hn1) (fun _ _ h=>h) (fun k hk h=>absurd hk (by omega));have hn2:=hF2.new hs1 hn1;have hs2:=hk2.size;have hcd:=hk2.cell hc0' (fun h=>h);clear H1 H2 hF1 hF2 hO1 hk1 hn1;go_wp2_with (first
  | (go_at_call 86;refine(H3.out _ v2 _ q0 _ Hq0.out.2 (by have:=Hq0.out.2;first|with_reducible rfl|(rw[IntKind.wrap_u64];omega)|omega) hs2 (by simp) hO2).mono ?_;rintro e w3 ⟨v3,rfl,hO3,hF3⟩)
  | fail)
 have hk3:Kp none' w w3:=hk2.trans (hF3.kpN hn2) (fun _ _ h=>h) (fun k hk h=>absurd hk (by omega));clear hF3 hO2 hn2 hcd hc0';have HG:Hid (G=(([2]++[UInt8.ofNat ks.length])++be q0 2)++encKs ks ds):=by
  show _=_;rw[<-HG0.out];have e:d.toNat=q0:=by have:=Hq0.out.1;omega
  rw[HKD.out,<-e];rfl
 obtain⟨P,HPf⟩:∃P,Hid ((([2]++[UInt8.ofNat ks.length])++be q0 2)=P):=⟨_,hide rfl⟩;rw[HPf.out]at hO3 HG;have HPl:Hid (P.length=4):=by
  show _=_;rw[<-HPf.out];simp[B3]
 have HDS:Hid (∀i (h:i<ds.length),∃q:Nat,Hid (ds[i]=(q:Int)/\q<65536)/\w.cell? ⟨b2,o2+(i+1),none⟩=some (.int .i64 (q:Int))):=by
  have hkd:=HKD.out;have hkn:kd.length=ds.length+1:=by rw[hkd];rfl
  intro i h;obtain⟨b,off,e,_,hc⟩:=HD.out (i+1) (by omega);cases e
  have h1:=HWd.out ds[i] (by rw[hkd];exact List.mem_cons_of_mem _ (List.getElem_mem h));have e2:kd[i+1]'(by omega)=ds[i]:=by simp[hkd]
  refine⟨ds[i].toNat,?_,?_⟩
  ·show _/\_;omega
  ·rw[hc,e2,Int.toNat_of_nonneg (by omega)]
 have HDL:Hid (ds.length=ks.length):=by
  have hkd:=HKD.out;have hkn:kd.length=ds.length+1:=by rw[hkd];rfl
  have:=HKL.out;show _=_;omega
 clear HD HWd Hq0 Hd1 HE2 hk0 hlc hlc2 hcm hcm2 HKD;go_loopw [5,6,7,22] (fun b _ _ u wr=>∃j:Nat,j<=ks.length/\u=.int .i64 j/\Own 5 wr w.heap.size b (P++encKs (ks.take j) ds)/\Kp none' w wr) (fun _ _ _ u _=>ks.length - (intOf u).toNat)
 case atStart=>exact⟨0,Nat.zero_le _,rfl,by simpa[encKs]using hO3,hk3⟩
 case round =>
  obtain⟨j,hj,rfl,hO,hK⟩:=hrel;by_cases hlt:j<ks.length
  ·obtain⟨b,o,rfl,_,hc'⟩:=HA.out j hlt;have hjd:j<ds.length:=by have:=HDL.out;omega
   obtain⟨q,Hq,hdc⟩:=HDS.out j hjd;have hc:=hK.cell hc' (fun h=>h);have HWK:=hide (hwk _ (List.getElem_mem hlt));have HT:Hid (encKs (ks.take (j+1)) ds=encKs (ks.take j) ds++(strB ks[j].data.toList++be q 2)):=by
    have e:ds[j].toNat=q:=by have:=Hq.out.1;omega
    rw[<-e];exact E7 ks ds j hlt hjd
   have hlenE:∀(q:List ByteArray) (m:List Int),(encKs q m).length<=258*q.length:=by
    intro q;induction q with
    | nil=>intro m;simp[encKs]
    | cons p q ih =>
     intro m;cases m with
     | nil=>simp[encKs]
     | cons z m =>
      have h1:=CV p.data.toList;have h2:=ih m;show (strB p.data.toList++be z.toNat 2++encKs q m).length<=258*(q.length+1);rw[List.length_append,List.length_append,B3];omega
   have HL:Hid ((P++encKs (ks.take j) ds).length<=139000):=by
    have h1:=hlenE (ks.take j) ds;have:=HPl.out;rw[List.length_take]at h1;show _<=_;rw[List.length_append];omega
   clear hlenE hc';have hlt':(j:Int)<(ks.length:Int):=by omega
   generalize ks[j]=y at *;obtain⟨M,HM⟩:∃M,Hid (P++encKs (ks.take j) ds=M):=⟨_,hide rfl⟩;rw[HM.out]at hO HL;have hnw:∀k,u5.ownBlock=some k->w.heap.size<=k:=fun k hk=>(hO.lt k hk).1;have hsw:=hK.size;go_upto_region 8 with (first
    | (go_at_call 87;refine(Ia u5 M y w.heap.size _ HWK.out hO hsw (by have:=HL.out;omega)).mono ?_;rintro e w4 ⟨v4,rfl,hO4,hF4⟩)
    | fail)
   have hk4:Kp none' w w4:=hK.trans (hF4.kpN hnw) (fun _ _ h=>h) (fun k hk h=>absurd hk (by omega));have hn4:=hF4.new hsw hnw;have hs4:=hk4.size;have hdd:=hk4.cell hdc (fun h=>h);clear hc hdc;obtain⟨k1,HK1⟩:∃k1:Nat,Hid (j+1=k1):=⟨_,rfl⟩;have hwk1:IntKind.i64.wrap ((j:Int)+1)=(k1:Int):=by rw[<-HK1.out,IntKind.wrap_i64];omega
   rw[HK1.out]at hdd;have hk1':(k1:Int)<(kd.length:Int):=by have:=HK1.out;have:=HKL.out;omega
   have hk1n:k1<kd.length:=by have:=HK1.out;have:=HKL.out;omega
   have HL4:Hid ((M++strB y.data.toList).length<=140000):=by
    have:=HL.out;have:=CV y.data.toList;show _<=_;rw[List.length_append];omega
   go_wp2_with (first
    | (go_at_call 86;refine(H3.out _ v4 _ q _ Hq.out.2 (by have:=Hq.out.2;first|with_reducible rfl|(rw[IntKind.wrap_u64];omega)|omega) hs4 HL4.out hO4).mono ?_;rintro e w5 ⟨v5,rfl,hO5,hF5⟩)
    | fail)
   have hk5:Kp none' w w5:=hk4.trans (hF5.kpN hn4) (fun _ _ h=>h) (fun k hk h=>absurd hk (by omega));go_roundw
   case rel =>
    refine⟨j+1,by omega,by have:=HK1.out;go_num,?_,hk5⟩;rw[HT.out,<-List.append_assoc,HM.out,<-List.append_assoc];exact hO5
   case measure=>have:=HK1.out;simp[intOf];omega
  ·have hlt':¬(j:Int)<(ks.length:Int):=by omega
   have hje:j=ks.length:=by omega
   rw[hje,List.take_length]at hO;clear hje;go_wp2;go_ret;refine⟨_,rfl,?_,hK⟩;rw[HG.out];exact hO
theorem BK{α:Type}(f:α->Nat)(l:List α)(j:Nat)(h:j<l.length):((l.take (j+1)).map f).sum=((l.take j).map f).sum+f l[j]:=by
 rw[List.take_succ_eq_append_getElem h,List.map_append,List.sum_append];simp
theorem EC{α:Type}(f:α->Nat)(l:List α)(j:Nat):((l.take j).map f).sum<=(l.map f).sum:=by
 conv=>rhs;rw[<-List.take_append_drop j l,List.map_append,List.sum_append]
 exact Nat.le_add_right _ _
set_option maxRecDepth 100000 in
theorem halfP(v:Value)(l:List Pr)(B:Nat)(w:World)(hP:Prs B w v l)(hl:1<l.length)(hs:(l.map Pr.size).sum<=4194304)(hlen:l.length<=4194304)(M:Int)(hM:M=((l.length - 1:Nat):Int))(at_:Nat)(hA:splG (fun j=>Pr.size (l.getD j ⟨⟨#[]⟩,⟨#[]⟩⟩)) (l.map Pr.size).sum (l.length - 1) l.length 1 (Pr.size (l.getD 0 ⟨⟨#[]⟩,⟨#[]⟩⟩))=at_) :
  Calls prog 198 #[v,.int .i64 M,.func (.func 51) #[] #[]] w fun e w'=>e=.returned (.int .i64 (at_:Int))/\Kp none' w w':=by
 have hP':=hP;obtain⟨a,c,rfl,hlc,hcm,ha⟩:=hP';unfold maxLen at hcm;have HA:=hide ha;clear ha;obtain⟨lim,HLIM⟩:∃lim,Hid (l.length - 1=lim):=⟨_,rfl⟩;rw[HLIM.out]at hM hA;subst hM;obtain⟨all,HALL⟩:∃q,Hid ((l.map Pr.size).sum=q):=⟨(l.map Pr.size).sum,hide rfl⟩;rw[HALL.out]at hs hA;have HSM:Hid (∀W:World,Kp none' w W->Calls prog 50 #[.slice a l.length c,.func (.func 51) #[] #[]] W fun e w'=>e=.returned (.int .i64 (all:Int))/\Kp none' W w'):=by
  intro W hk;have:=Jk _ l B W (hP.keptN hk);rw[HALL.out,show wrap64 (all:Int)=(all:Int) by unfold wrap64;omega]at this;exact this
 have HSPL:Hid (splG (fun j=>Pr.size (l.getD j ⟨⟨#[]⟩,⟨#[]⟩⟩)) all lim l.length 1 (((l.take 1).map Pr.size).sum)=at_):=by
  show _=_;have h0:0<l.length:=by omega
  have e:(((l.take 1).map Pr.size).sum)=Pr.size (l.getD 0 ⟨⟨#[]⟩,⟨#[]⟩⟩):=by
   rw[show (1:Nat)=0+1 from rfl,BK Pr.size l 0 h0,List.getD_eq_getElem?_getD,List.getElem?_eq_getElem h0];simp
  rw[e];exact hA
 have hl1:1<=lim:=by have:=HLIM.out;omega
 have hll:lim<=l.length:=by have:=HLIM.out;omega
 clear hA hP hl;go_enter func198,ntmps198;go_wp2_with (first
  | (go_at_call 50;refine(HSM.out _ (Kp.refl _ _)).mono ?_;rintro e w1 ⟨rfl,hK1⟩)
  | fail)
 go_loopw [8,9] (fun t u wr=>∃i part f:Nat,1<=i/\i<=lim/\u=.int .i64 i/\t=.int .i64 part/\Hid (part=((l.take (i - 1)).map Pr.size).sum)/\Hid (splG (fun j=>Pr.size (l.getD j ⟨⟨#[]⟩,⟨#[]⟩⟩)) all lim f i (((l.take i).map Pr.size).sum)=at_)/\Hid (lim<i+f)/\Kp none' w1 wr) (fun _ u _=>lim - (intOf u).toNat)
 case atStart=>exact⟨1,0,l.length,Nat.le_refl _,hl1,rfl,rfl,(by show _=_;simp),HSPL,(by show _<_;omega),Kp.refl _ _⟩
 case round =>
  obtain⟨i,part,f,hi1,hil,rfl,rfl,HP,HG,HF,hK⟩:=hrel;by_cases hlt:i<lim
  ·obtain⟨i0,HI0⟩:∃q:Nat,Hid (i=q+1):=⟨i - 1,by show _=_;omega⟩;have hi0:i0<l.length:=by have:=HI0.out;omega
   have hin:i<l.length:=by omega
   obtain⟨b,o,rfl,_,hc',hd'⟩:=HA.out i0 hi0;have hc:=(hK1.thenN hK).cell hc' (fun h=>h);have hd:=(hK1.thenN hK).cell hd' (fun h=>h);clear hc' hd';have hlt':(i:Int)<(lim:Int):=by omega
   have hw0:IntKind.i64.wrap ((i:Int) - 1)=(i0:Int):=by have:=HI0.out;rw[IntKind.wrap_i64];omega
   have hi0':(i0:Int)<(l.length:Int):=by omega
   have HT:Hid (((l.take i).map Pr.size).sum=part+Pr.size l[i0]):=by
    show _=_;have e1:i - 1=i0:=by have:=HI0.out;omega
    rw[HP.out,HI0.out,Nat.add_sub_cancel,BK Pr.size l i0 hi0]
   have HB:Hid (part+Pr.size l[i0]<=4194304):=by
    show _<=_;rw[<-HT.out];have:=EC Pr.size l i;have:=HALL.out;omega
   obtain⟨s,HS⟩:∃s,Hid (Pr.size l[i0]=s):=⟨Pr.size l[i0],hide rfl⟩;rw[HS.out]at HT HB;have HSZ:Hid (∀W:World,Calls prog 51 #[.agg #[.string l[i0].k,.string l[i0].v]] W fun e w'=>e=.returned (.int .i64 (s:Int))/\Kp none' W w'):=by
    intro W;have:=DW l[i0] W;rw[HS.out,show wrap64 (s:Int)=(s:Int) by have:=HB.out;unfold wrap64;omega]at this;exact this
   generalize l[i0]=y at *;obtain⟨p2,HP2⟩:∃q:Nat,Hid (part+s=q):=⟨_,rfl⟩;have hw1:wrap64 ((part:Int)+(s:Int))=(p2:Int):=by have:=HB.out;have:=HP2.out;unfold wrap64;omega
   have hw1':IntKind.i64.wrap ((part:Int)+(s:Int))=(p2:Int):=by have:=HB.out;have:=HP2.out;rw[IntKind.wrap_i64];omega
   obtain⟨p3,HP3⟩:∃q:Nat,Hid (2*p2=q):=⟨_,rfl⟩;have hw2:wrap64 (2*(p2:Int))=(p3:Int):=by have:=HB.out;have:=HP2.out;have:=HP3.out;unfold wrap64;omega
   have hw2':IntKind.i64.wrap (2*(p2:Int))=(p3:Int):=by have:=HB.out;have:=HP2.out;have:=HP3.out;rw[IntKind.wrap_i64];omega
   rw[HT.out,HP2.out]at HG;by_cases hge:all<=p3
   ·have hge':(all:Int)<=(p3:Int):=by omega
    have HR:Hid (i=at_):=by
     show _=_;rw[<-HG.out];cases f with
     | zero=>rfl
     | succ f=>rw[splG,if_neg (by have:=HP3.out;omega)]
    clear HG HP HT HB hge;go_wp2_with (first
     | (go_at_call 51;refine(HSZ.out _).mono ?_;rintro e w3 ⟨rfl,hK3⟩)
     | fail)
    go_ret;rw[<-HR.out];exact⟨rfl,hK1.thenN (hK.thenN hK3)⟩
   ·have hge':¬(all:Int)<=(p3:Int):=by omega
    obtain⟨f',Hf⟩:∃f',Hid (f=f'+1):=⟨f - 1,by have:=HF.out;show _=_;omega⟩;have HG2:Hid (splG (fun j=>Pr.size (l.getD j ⟨⟨#[]⟩,⟨#[]⟩⟩)) all lim f' (i+1) (((l.take (i+1)).map Pr.size).sum)=at_):=by
     show _=_;have e2:=HG.out;rw[Hf.out,splG,if_pos (by have:=HP3.out;omega)]at e2;rw[<-e2,BK Pr.size l i hin,HT.out,HP2.out,List.getD_eq_getElem?_getD,List.getElem?_eq_getElem hin];rfl
    have HPn:Hid (p2=((l.take (i+1 - 1)).map Pr.size).sum):=by
     show _=_;rw[Nat.add_sub_cancel,HT.out,HP2.out]
    have HFn:Hid (lim<i+1+f'):=by have:=HF.out;have:=Hf.out;show _<_;omega
    clear HG HP HT HB hge;go_wp2_with (first
     | (go_at_call 51;refine(HSZ.out _).mono ?_;rintro e w3 ⟨rfl,hK3⟩)
     | fail)
    go_roundw
    case rel=>exact⟨i+1,p2,f',by omega,by omega,by go_num,by first|rfl|rw[hw1]|rw[hw1'],HPn,HG2,HFn,hK.thenN hK3⟩
    case measure=>simp[intOf];omega
  ·have hlt':¬(i:Int)<(lim:Int):=by omega
   have HR:Hid (lim=at_):=by
    show _=_;rw[<-HG.out];cases f with
    | zero=>show lim=i;omega
    | succ f=>rw[splG,if_neg (by omega)];omega
   clear HG HP;go_wp2;go_ret;rw[<-HR.out];exact⟨rfl,hK1.thenN hK⟩
set_option maxRecDepth 100000 in
theorem halfK(v:Value)(l:List ByteArray)(B:Nat)(w:World)(hP:Sl Value.string B w v l)(hl:2<l.length)(hs:(l.map kSize).sum<=4194304)(hlen:l.length<=4194304)(M:Int)(hM:M=((l.length - 2:Nat):Int))(at_:Nat)(hA:splG (fun j=>kSize (l.getD j ⟨#[]⟩)) (l.map kSize).sum (l.length - 2) l.length 1 (kSize (l.getD 0 ⟨#[]⟩))=at_) :
  Calls prog 199 #[v,.int .i64 M,.func (.func 53) #[] #[]] w fun e w'=>e=.returned (.int .i64 (at_:Int))/\Kp none' w w':=by
 have hP':=hP;obtain⟨a,c,rfl,hlc,hcm,ha⟩:=hP';unfold maxLen at hcm;have HA:=hide ha;clear ha;obtain⟨lim,HLIM⟩:∃lim,Hid (l.length - 2=lim):=⟨_,rfl⟩;rw[HLIM.out]at hM hA;subst hM;obtain⟨all,HALL⟩:∃q,Hid ((l.map kSize).sum=q):=⟨(l.map kSize).sum,hide rfl⟩;rw[HALL.out]at hs hA;have HSM:Hid (∀W:World,Kp none' w W->Calls prog 52 #[.slice a l.length c,.func (.func 53) #[] #[]] W fun e w'=>e=.returned (.int .i64 (all:Int))/\Kp none' W w'):=by
  intro W hk;have:=Jj _ l B W (hP.keptN hk);rw[HALL.out,show wrap64 (all:Int)=(all:Int) by unfold wrap64;omega]at this;exact this
 have HSPL:Hid (splG (fun j=>kSize (l.getD j ⟨#[]⟩)) all lim l.length 1 (((l.take 1).map kSize).sum)=at_):=by
  show _=_;have h0:0<l.length:=by omega
  have e:(((l.take 1).map kSize).sum)=kSize (l.getD 0 ⟨#[]⟩):=by
   rw[show (1:Nat)=0+1 from rfl,BK kSize l 0 h0,List.getD_eq_getElem?_getD,List.getElem?_eq_getElem h0];simp
  rw[e];exact hA
 have hl1:1<=lim:=by have:=HLIM.out;omega
 have hll:lim<=l.length:=by have:=HLIM.out;omega
 clear hA hP hl;go_enter func199,ntmps199;go_wp2_with (first
  | (go_at_call 52;refine(HSM.out _ (Kp.refl _ _)).mono ?_;rintro e w1 ⟨rfl,hK1⟩)
  | fail)
 go_loopw [8,9] (fun t u wr=>∃i part f:Nat,1<=i/\i<=lim/\u=.int .i64 i/\t=.int .i64 part/\Hid (part=((l.take (i - 1)).map kSize).sum)/\Hid (splG (fun j=>kSize (l.getD j ⟨#[]⟩)) all lim f i (((l.take i).map kSize).sum)=at_)/\Hid (lim<i+f)/\Kp none' w1 wr) (fun _ u _=>lim - (intOf u).toNat)
 case atStart=>exact⟨1,0,l.length,Nat.le_refl _,hl1,rfl,rfl,(by show _=_;simp),HSPL,(by show _<_;omega),Kp.refl _ _⟩
 case round =>
  obtain⟨i,part,f,hi1,hil,rfl,rfl,HP,HG,HF,hK⟩:=hrel;by_cases hlt:i<lim
  ·obtain⟨i0,HI0⟩:∃q:Nat,Hid (i=q+1):=⟨i - 1,by show _=_;omega⟩;have hi0:i0<l.length:=by have:=HI0.out;omega
   have hin:i<l.length:=by omega
   obtain⟨b,o,rfl,_,hc'⟩:=HA.out i0 hi0;have hc:=(hK1.thenN hK).cell hc' (fun h=>h);clear hc';have hlt':(i:Int)<(lim:Int):=by omega
   have hw0:IntKind.i64.wrap ((i:Int) - 1)=(i0:Int):=by have:=HI0.out;rw[IntKind.wrap_i64];omega
   have hi0':(i0:Int)<(l.length:Int):=by omega
   have HT:Hid (((l.take i).map kSize).sum=part+kSize l[i0]):=by
    show _=_;have e1:i - 1=i0:=by have:=HI0.out;omega
    rw[HP.out,HI0.out,Nat.add_sub_cancel,BK kSize l i0 hi0]
   have HB:Hid (part+kSize l[i0]<=4194304):=by
    show _<=_;rw[<-HT.out];have:=EC kSize l i;have:=HALL.out;omega
   obtain⟨s,HS⟩:∃s,Hid (kSize l[i0]=s):=⟨kSize l[i0],hide rfl⟩;rw[HS.out]at HT HB;have HSZ:Hid (∀W:World,Calls prog 53 #[.string l[i0]] W fun e w'=>e=.returned (.int .i64 (s:Int))/\Kp none' W w'):=by
    intro W;have:=Ev l[i0] W;rw[HS.out,show wrap64 (s:Int)=(s:Int) by have:=HB.out;unfold wrap64;omega]at this;exact this
   generalize l[i0]=y at *;obtain⟨p2,HP2⟩:∃q:Nat,Hid (part+s=q):=⟨_,rfl⟩;have hw1:wrap64 ((part:Int)+(s:Int))=(p2:Int):=by have:=HB.out;have:=HP2.out;unfold wrap64;omega
   have hw1':IntKind.i64.wrap ((part:Int)+(s:Int))=(p2:Int):=by have:=HB.out;have:=HP2.out;rw[IntKind.wrap_i64];omega
   obtain⟨p3,HP3⟩:∃q:Nat,Hid (2*p2=q):=⟨_,rfl⟩;have hw2:wrap64 (2*(p2:Int))=(p3:Int):=by have:=HB.out;have:=HP2.out;have:=HP3.out;unfold wrap64;omega
   have hw2':IntKind.i64.wrap (2*(p2:Int))=(p3:Int):=by have:=HB.out;have:=HP2.out;have:=HP3.out;rw[IntKind.wrap_i64];omega
   rw[HT.out,HP2.out]at HG;by_cases hge:all<=p3
   ·have hge':(all:Int)<=(p3:Int):=by omega
    have HR:Hid (i=at_):=by
     show _=_;rw[<-HG.out];cases f with
     | zero=>rfl
     | succ f=>rw[splG,if_neg (by have:=HP3.out;omega)]
    clear HG HP HT HB hge;go_wp2_with (first
     | (go_at_call 53;refine(HSZ.out _).mono ?_;rintro e w3 ⟨rfl,hK3⟩)
     | fail)
    go_ret;rw[<-HR.out];exact⟨rfl,hK1.thenN (hK.thenN hK3)⟩
   ·have hge':¬(all:Int)<=(p3:Int):=by omega
    obtain⟨f',Hf⟩:∃f',Hid (f=f'+1):=⟨f - 1,by have:=HF.out;show _=_;omega⟩;have HG2:Hid (splG (fun j=>kSize (l.getD j ⟨#[]⟩)) all lim f' (i+1) (((l.take (i+1)).map kSize).sum)=at_):=by
     show _=_;have e2:=HG.out;rw[Hf.out,splG,if_pos (by have:=HP3.out;omega)]at e2;rw[<-e2,BK kSize l i hin,HT.out,HP2.out,List.getD_eq_getElem?_getD,List.getElem?_eq_getElem hin];rfl
    have HPn:Hid (p2=((l.take (i+1 - 1)).map kSize).sum):=by
     show _=_;rw[Nat.add_sub_cancel,HT.out,HP2.out]
    have HFn:Hid (lim<i+1+f'):=by have:=HF.out;have:=Hf.out;show _<_;omega
    clear HG HP HT HB hge;go_wp2_with (first
     | (go_at_call 53;refine(HSZ.out _).mono ?_;rintro e w3 ⟨rfl,hK3⟩)
     | fail)
    go_roundw
    case rel=>exact⟨i+1,p2,f',by omega,by omega,by go_num,by first|rfl|rw[hw1]|rw[hw1'],HPn,HG2,HFn,hK.thenN hK3⟩
    case measure=>simp[intOf];omega
  ·have hlt':¬(i:Int)<(lim:Int):=by omega
   have HR:Hid (lim=at_):=by
    show _=_;rw[<-HG.out];cases f with
    | zero=>show lim=i;omega
    | succ f=>rw[splG,if_neg (by omega)];omega
   clear HG HP;go_wp2;go_ret;rw[<-HR.out];exact⟨rfl,hK1.thenN hK⟩
end Go.Proofs.YtgcgacjhkhjhmaaGreatDoor
