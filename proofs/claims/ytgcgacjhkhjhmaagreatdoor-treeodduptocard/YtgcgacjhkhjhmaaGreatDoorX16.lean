/- Part of the proof: contracts over the turned program. -/
import Derived.Test.YtgcgacjhkhjhmaaGreatDoorX10
import Derived.Test.YtgcgacjhkhjhmaaGreatDoorX15
set_option linter.unusedVariables false
set_option maxHeartbeats 4000000
open Go.Proofs.Tryz
namespace Go.Proofs.YtgcgacjhkhjhmaaGreatDoor
open Go Go.RowKit
def rdNd(a c:UInt8)(l:List UInt8):Nd:=if a=1 then ⟨true,ldP (mkB l,0) c.toNat,[],[]⟩ else if a=2 then ⟨false,[],ndK (sNum (mkB l,0) 2) c.toNat,(gNum (mkB l,0) 2:Int)::ndD (sNum (mkB l,0) 2) c.toNat⟩ else ⟨false,[],[],[]⟩
def rdSt(a c:UInt8)(l:List UInt8):Rst:=if a=1 then ldS (mkB l,0) c.toNat else if a=2 then ndS (sNum (mkB l,0) 2) c.toNat else (mkB (c::l),0)
theorem PW(a c:UInt8)(l:List UInt8)(h:l.length=254):readN (mkB (a::c::l))=if (rdSt a c l).2=0/\(rdNd a c l).right=true/\(∀x∈(rdSt a c l).1.data.toList,x=0) then some (rdNd a c l) else none:=by
 unfold rdSt rdNd;by_cases h1:a=1
 ·subst h1;simp only[if_true];exact Mm c l h
 ·rw[if_neg h1,if_neg h1];by_cases h2:a=2
  ·subst h2;simp only[if_true];exact Ki c l h
  ·rw[if_neg h2,if_neg h2,Mn _ (.inr ⟨a,c::l,rfl,h1,h2⟩)];have:(⟨false,[],[],[]⟩:Nd).right=false:=by decide
   rw[if_neg (by rw[this];simp)]
theorem NI(r:Rst):∀j,∀p∈ldP r j,p.k.size<=maxLen/\p.v.size<=maxLen
 | 0,p,h=>by cases h
 | j+1,p,h=>by
  rcases List.mem_append.1 h with h|h
  ·exact NI r j p h
  ·rw[List.mem_singleton.1 h];exact⟨Fa _ _,Fa _ _⟩
theorem NY(r:Rst):∀j,∀p∈ndK r j,p.size<=maxLen
 | 0,p,h=>by cases h
 | j+1,p,h=>by
  rcases List.mem_append.1 h with h|h
  ·exact NY r j p h
  ·rw[List.mem_singleton.1 h];exact Fa _ _
theorem NX(r:Rst):∀j,∀z∈ndD r j,-9223372036854775808<=z/\z<9223372036854775808
 | 0,p,h=>by cases h
 | j+1,p,h=>by
  rcases List.mem_append.1 h with h|h
  ·exact NX r j p h
  ·rw[List.mem_singleton.1 h];have:=EL (sStr (ndS r j) 32);omega
theorem Mk(a c:UInt8)(l:List UInt8):(rdSt a c l).1.size<=l.length+1:=by
 unfold rdSt;split
 ·have:=Fk (mkB l,0) c.toNat;rw[AB]at this;omega
 ·split
  ·have:=Fq (sNum (mkB l,0) 2) c.toNat;have h2:(sNum (mkB l,0) 2).1.size<=l.length:=by have:=Dl (mkB l) 0 (wid 2:Nat);rw[AB]at this;exact this
   omega
  ·show (mkB (c::l)).size<=_;rw[AB];simp
structure OwN (w:World) (base:Nat) (l:Bool) (pv kv dv:Value) (n:Nd):Prop where
 l:l=n.leaf
 p:OwP w base pv n.ps
 k:Ow Value.string 9 w base kv n.ks
 d:Ow (Value.int .i64) 3 w base dv n.kd
 wf:n.wf
 t:n.kd≠[]->Tight kv dv
 np:n.kd≠[]->pv.ownBlock=none
theorem OwN.kept{w w':World}{base:Nat}{l:Bool}{pv kv dv:Value}{n:Nd}{S:Nat->Prop}(h:OwN w base l pv kv dv n)(hk:Kp S w w')(hS:∀k,base<=k->k<w.heap.size->¬S k):OwN w' base l pv kv dv n :=
 ⟨h.l,h.p.kept hk (fun k hk=>hS k (h.p.lt k hk).1 (h.p.lt k hk).2),h.k.kept hk (fun k hk=>hS k (h.k.lt k hk).1 (h.k.lt k hk).2),h.d.kept hk (fun k hk=>hS k (h.d.lt k hk).1 (h.d.lt k hk).2),h.wf,h.t,h.np⟩
theorem OwN.mono{w:World}{base base':Nat}{l:Bool}{pv kv dv:Value}{n:Nd}(h:OwN w base l pv kv dv n)(hb:base'<=base):OwN w base' l pv kv dv n:=⟨h.l,h.p.mono hb,h.k.mem hb,h.d.mem hb,h.wf,h.t,h.np⟩
theorem OwN.nv{w:World}{base:Nat}{l:Bool}{pv kv dv:Value}{n:Nd}(h:OwN w base l pv kv dv n):Nv w.heap.size w (.agg #[.bool l,pv,kv,dv]) n:=⟨⟨pv,kv,dv,by rw[h.l],h.p.prs,h.k.sl,h.d.sl⟩,h.wf⟩
set_option maxRecDepth 100000 in
theorem I6(b:Nat)(a c:UInt8)(l:List UInt8)(w:World)(h:Rd w b (mkB (a::c::l)) 0)(hl:l.length<=1000) :
  Calls prog 136 #[.pointer (some ⟨b,0,none⟩)] w fun e w'=>∃l0 b1 m1 o1 b2 m2 o2 b3 m3 o3,e=.returned (.agg #[.bool l0,.slice b1 m1 o1,.slice b2 m2 o2,.slice b3 m3 o3])/\OwN w' w.heap.size l0 (.slice b1 m1 o1) (.slice b2 m2 o2) (.slice b3 m3 o3) (rdNd a c l)/\Rd w' b (rdSt a c l).1 (rdSt a c l).2/\Kp (only b) w w':=by
 have hK0:Kp none' w (w.alloc (.cells #[.bool false,.slice none 0 0,.slice none 0 0,.slice none 0 0] 35)):=Kp.alloc _ _ _;have n2:=Nb.new w false (.slice none 0 0) (.slice none 0 0) (.slice none 0 0);have hR0:=h.keptK hK0 (fun h=>h);have hbl:=h.lt;have HNum:Hid (∀W:World,Rd W b (mkB (a::c::l)) 0->Calls prog 105 #[.pointer (some ⟨b,0,none⟩),.int .i64 1] W fun y w'=>y=.returned (.int .u64 (a.toNat:Int))/\Rd w' b (mkB (c::l)) 0/\Kp (only b) W w'):=by
  intro W hW;refine(Dt b a (c::l) W hW (by unfold maxLen;simp;omega)).mono ?_;rintro y w' ⟨rfl,h1,h2⟩;exact⟨rfl,h1,Kp.ofGrown h2 (fun k hk _=>by cases hk;rfl)⟩
 have HLf:Hid (∀W:World,Rd W b (mkB (c::l)) 0->Calls prog 161 #[.pointer (some ⟨b,0,none⟩)] W fun e w'=>∃a m q,e=.returned (.agg #[.bool true,.slice a m q,.slice none 0 0,.slice none 0 0])/\OwP w' W.heap.size (.slice a m q) (ldP (mkB l,0) c.toNat)/\Rd w' b (ldS (mkB l,0) c.toNat).1 (ldS (mkB l,0) c.toNat).2/\Kp (only b) W w'):=fun W hW=>Hu b c l W hW hl
 have HIn:Hid (∀W:World,Rd W b (mkB (c::l)) 0->Calls prog 162 #[.pointer (some ⟨b,0,none⟩)] W fun e w'=>∃a m q a' m' q',e=.returned (.agg #[.bool false,.slice none 0 0,.slice a m q,.slice a' m' q'])/\Ow Value.string 9 w' W.heap.size (.slice a m q) (ndK (sNum (mkB l,0) 2) c.toNat)/\Ow (Value.int .i64) 3 w' W.heap.size (.slice a' m' q') ((gNum (mkB l,0) 2:Int)::ndD (sNum (mkB l,0) 2) c.toNat)/\Tight (.slice a m q) (.slice a' m' q')/\Rd w' b (ndS (sNum (mkB l,0) 2) c.toNat).1 (ndS (sNum (mkB l,0) 2) c.toNat).2/\Kp (only b) W w'):=fun W hW=>FX b c l W hW hl
 have HLT:Hid (w.heap.size<(w.alloc (.cells #[.bool false,.slice none 0 0,.slice none 0 0,.slice none 0 0] 35)).heap.size):=n2.lt;clear h;by_cases h1:a=1
 ·have HNd:Hid (rdNd a c l=⟨true,ldP (mkB l,0) c.toNat,[],[]⟩):=by show _=_;unfold rdNd;rw[if_pos h1]
  have HSt:Hid (rdSt a c l=ldS (mkB l,0) c.toNat):=by show _=_;unfold rdSt;rw[if_pos h1]
  rw[HNd.out,HSt.out];have ha:(a.toNat:Int)=1:=by rw[h1];rfl
  rw[ha]at HNum;clear ha h1;go_enter func136,ntmps136;go_upto_region 1 with fail;generalize w.alloc (.cells #[.bool false,.slice none 0 0,.slice none 0 0,.slice none 0 0] 35)=w0 at *;go_upto_region 3 with (first
   | (go_at_call 105;refine(HNum.out _ hR0).mono ?_;rintro e w1 ⟨rfl,hR1,hk1⟩)
   | fail)
  replace n2:=n2.kept hk1 (fun e=>by unfold only at e;omega);go_wp2_with (first
   | (go_at_call 161;refine(HLf.out _ hR1).mono ?_;rintro e w2 ⟨a4,m4,q4,rfl,hO,hR2,hk2⟩;replace n2:=n2.kept hk2 (fun e=>by unfold only at e;omega))
   | (refine Aj rfl rfl (.tmp 2) (.tmp 8) rfl w.heap.size rfl rfl n2 ?_;clear n2;intro w3 n2 hk3)
   | fail)
  refine bodyPost_ret (As rfl _ w.heap.size _ rfl n2) rfl ?_;have hsz:=hk1.size;refine⟨_,_,_,_,_,_,_,_,_,_,rfl,⟨rfl,(hO.kept hk3 (fun z hz e=>by have:=(hO.lt z hz).1;have:=HLT.out;unfold only at e;omega)).mono (by have:=HLT.out;omega),Ow.nil _ _ _ _,Ow.nil _ _ _ _,⟨NI _ _,by simp,by simp⟩,fun h=>absurd rfl h,fun h=>absurd rfl h⟩,hR2.keptK hk3 (fun e=>by unfold only at e;omega),?_⟩
  exact((hK0.nThen hk1).then hk2).trans hk3 (fun _ _ h=>h) (fun k hk e=>absurd hk (by unfold only at e;omega))
 ·by_cases h2:a=2
  ·have HNd:Hid (rdNd a c l=⟨false,[],ndK (sNum (mkB l,0) 2) c.toNat,(gNum (mkB l,0) 2:Int)::ndD (sNum (mkB l,0) 2) c.toNat⟩):=by show _=_;unfold rdNd;rw[if_neg h1,if_pos h2]
   have HSt:Hid (rdSt a c l=ndS (sNum (mkB l,0) 2) c.toNat):=by show _=_;unfold rdSt;rw[if_neg h1,if_pos h2]
   rw[HNd.out,HSt.out];have ha:(a.toNat:Int)=2:=by rw[h2];rfl
   rw[ha]at HNum;clear ha h1 h2;go_enter func136,ntmps136;go_upto_region 1 with fail;generalize w.alloc (.cells #[.bool false,.slice none 0 0,.slice none 0 0,.slice none 0 0] 35)=w0 at *;go_upto_region 5 with (first
    | (go_at_call 105;refine(HNum.out _ hR0).mono ?_;rintro e w1 ⟨rfl,hR1,hk1⟩)
    | fail)
   replace n2:=n2.kept hk1 (fun e=>by unfold only at e;omega);go_wp2_with (first
    | (go_at_call 162;refine(HIn.out _ hR1).mono ?_;rintro e w2 ⟨a4,m4,q4,a5,m5,q5,rfl,hO,hO',hTt,hR2,hk2⟩;replace n2:=n2.kept hk2 (fun e=>by unfold only at e;omega))
    | (refine Aj rfl rfl (.tmp 2) (.tmp 12) rfl w.heap.size rfl rfl n2 ?_;clear n2;intro w3 n2 hk3)
    | fail)
   refine bodyPost_ret (As rfl _ w.heap.size _ rfl n2) rfl ?_;have hsz:=hk1.size;have hd0:=EL (mkB l,0)
   refine⟨_,_,_,_,_,_,_,_,_,_,rfl,⟨rfl,OwP.nil _ _,(hO.kept hk3 (fun z hz e=>by have:=(hO.lt z hz).1;have:=HLT.out;unfold only at e;omega)).mem (by have:=HLT.out;omega),(hO'.kept hk3 (fun z hz e=>by have:=(hO'.lt z hz).1;have:=HLT.out;unfold only at e;omega)).mem (by have:=HLT.out;omega),⟨by simp,NY _ _,fun z hz=>?_⟩,fun _=>hTt,fun _=>rfl⟩,hR2.keptK hk3 (fun e=>by unfold only at e;omega),?_⟩
   ·rcases List.mem_cons.1 hz with e|e
    ·rw[e];omega
    ·exact NX _ _ z e
   ·exact((hK0.nThen hk1).then hk2).trans hk3 (fun _ _ h=>h) (fun k hk e=>absurd hk (by unfold only at e;omega))
  ·have HNd:Hid (rdNd a c l=⟨false,[],[],[]⟩):=by show _=_;unfold rdNd;rw[if_neg h1,if_neg h2]
   have HSt:Hid (rdSt a c l=(mkB (c::l),0)):=by show _=_;unfold rdSt;rw[if_neg h1,if_neg h2]
   rw[HNd.out,HSt.out];have hq1:((a.toNat:Int)==1)=false:=by
    rw[beq_eq_false_iff_ne];intro e;exact h1 (UInt8.toNat.inj (by show a.toNat=1;omega))
   have hq2:((a.toNat:Int)==2)=false:=by
    rw[beq_eq_false_iff_ne];intro e;exact h2 (UInt8.toNat.inj (by show a.toNat=2;omega))
   clear h1 h2;generalize (a.toNat:Int)=z at *;go_enter func136,ntmps136;go_upto_region 1 with fail;generalize w.alloc (.cells #[.bool false,.slice none 0 0,.slice none 0 0,.slice none 0 0] 35)=w0 at *;go_upto_region 6 with (first
    | (go_at_call 105;refine(HNum.out _ hR0).mono ?_;rintro e w1 ⟨rfl,hR1,hk1⟩)
    | fail)
   replace n2:=n2.kept hk1 (fun e=>by unfold only at e;omega);go_wp2_with (first
    | (refine Aj rfl rfl (.tmp 2) (.tmp 13) rfl w.heap.size rfl rfl n2 ?_;clear n2;intro w3 n2 hk3)
    | fail)
   refine bodyPost_ret (As rfl _ w.heap.size _ rfl n2) rfl ?_;refine⟨_,_,_,_,_,_,_,_,_,_,rfl,⟨rfl,OwP.nil _ _,Ow.nil _ _ _ _,Ow.nil _ _ _ _,⟨by simp,by simp,by simp⟩,fun h=>absurd rfl h,fun h=>absurd rfl h⟩,hR1.keptK hk3 (fun e=>by unfold only at e;omega),?_⟩;exact(hK0.nThen hk1).trans hk3 (fun _ _ h=>h) (fun k hk e=>absurd hk (by unfold only at e;omega))
theorem AE{fn:Func}{p u:Tmp}(h:fn.results=#[.cell p 35,.tmp u])(tmps:Array Value)(g:Nat)(W:World)(er:Value){l:Bool}{a1 a2 a3:Option Addr}{n1 c1 n2 c2 n3 c3:Nat}(hp:tmps.getD p undef=.pointer (some ⟨g,0,none⟩))(hu:tmps.getD u undef=er)
  (hV:Nb W g l (.slice a1 n1 c1) (.slice a2 n2 c2) (.slice a3 n3 c3)) :
  (results fn tmps).run prog W=.ok (.tuple #[.agg #[.bool l,.slice a1 n1 c1,.slice a2 n2 c2,.slice a3 n3 c3],er]) W:=by
 have hp':tmps[p]?.getD undef=.pointer (some ⟨g,0,none⟩):=by simpa using hp
 have hu':tmps[u]?.getD undef=er:=by simpa using hu
 simp only[results,h];simp[Result.andThen,hp',hu',asAddr,ER hV]
theorem drop_zero(l:List UInt8):l.dropWhile (·==(0:UInt8))=[]↔∀x∈l,x=0:=by
 induction l with
 | nil=>simp
 | cons x l ih =>
  by_cases hx:x=0
  ·subst hx;simp[List.dropWhile,ih]
  ·have hb:(x==(0:UInt8))=false:=by simp[hx]
   simp[List.dropWhile,hb,hx]
theorem MF(l:List UInt8):Lib.trimB l 0=[]↔∀x∈l,x=0:=by
 unfold Lib.trimB Lib.trimLeftB;rw[drop_zero];unfold Lib.trimRightB;constructor
 ·intro h;have h1:(l.reverse.dropWhile (·==(0:UInt8)))=[]:=by
   cases e:l.reverse.dropWhile (·==(0:UInt8)) with
   | nil=>rfl
   | cons x r =>
    exfalso;have hx:x=0:=h x (by rw[e];simp);have:=List.head_dropWhile_not (·==(0:UInt8)) (l:=l.reverse) (by rw[e];simp);simp only[e,List.head_cons]at this;rw[hx]at this;simp at this
  have h2:=(drop_zero l.reverse).1 h1;intro x hx;exact h2 x (List.mem_reverse.2 hx)
 ·intro h;have h1:(l.reverse.dropWhile (·==(0:UInt8)))=[]:=(drop_zero l.reverse).2 (fun x hx=>h x (List.mem_reverse.1 hx));rw[h1];simp
theorem LO(s:ByteArray)(l:List UInt8)(h:s=⟨l.toArray⟩):s.toList.isEmpty=l.isEmpty:=by
 rw[h,ByteArray.toList_eq]
theorem Lj(s:ByteArray)(e:Int):rawE s e (s.size:Int)=e/\(e=0->rawR s e (s.size:Int)=s):=by
 constructor
 ·unfold rawE;by_cases h:e=0
  ·rw[if_neg (by omega),if_neg (by omega)];exact h.symm
  ·rw[if_pos h]
 ·intro h;unfold rawR;rw[if_neg (by omega),Int.toNat_natCast];have:=DN s.data.toList 0 s.size;rw[DO]at this;rw[this,List.drop_zero,Nat.sub_zero,List.take_of_length_le (by rw[Av];exact Nat.le_refl _),DO]
def nrdE(s:ByteArray):Int:=if (readN s).isSome then 0 else 10
def rdO(s:ByteArray):Nd:=(readN s).getD ⟨false,[],[],[]⟩
set_option maxRecDepth 100000 in
theorem Ml(s:ByteArray)(w:World)(hs:s.size<=maxLen) :
  Calls prog 99 #[.string s] w fun e w'=>∃l a1 n1 c1 a2 n2 c2 a3 n3 c3,e=.returned (.tuple #[.agg #[.bool l,.slice a1 n1 c1,.slice a2 n2 c2,.slice a3 n3 c3],.int .i64 (nrdE s)])/\OwN w' w.heap.size l (.slice a1 n1 c1) (.slice a2 n2 c2) (.slice a3 n3 c3) (rdO s)/\Kp none' w w':=by
 have hK0:Kp none' w (w.alloc (.cells #[.bool false,.slice none 0 0,.slice none 0 0,.slice none 0 0] 35)):=Kp.alloc _ _ _;have n2:=Nb.new w false (.slice none 0 0) (.slice none 0 0) (.slice none 0 0);have HZ:∀W:World,OwN W w.heap.size false (.slice none 0 0) (.slice none 0 0) (.slice none 0 0) ⟨false,[],[],[]⟩:=fun W=>⟨rfl,OwP.nil _ _,Ow.nil _ _ _ _,Ow.nil _ _ _ _,⟨by simp,by simp,by simp⟩,fun h=>absurd rfl h,fun h=>absurd rfl h⟩;have HZ':=hide HZ;clear HZ;by_cases h256:s.size=256
 ·obtain⟨a,c,l,hl,hse⟩:∃a c l,l.length=254/\s=mkB (a::c::l):=by
   have h1:=Av s;rw[h256]at h1;match h2:s.data.toList,h1 with
   | a::c::l,h1=>exact⟨a,c,l,by simpa using h1,by rw[<-h2,DO]⟩
  have HRA:=hide (PW a c l hl);rw[<-hse]at HRA;obtain⟨nd,Hnd⟩:∃q,Hid (rdNd a c l=q):=⟨_,rfl⟩;obtain⟨st,Hst⟩:∃q,Hid (rdSt a c l=q):=⟨_,rfl⟩;rw[Hnd.out,Hst.out]at HRA;have HSS:Hid (st.1.size<=maxLen):=by rw[<-Hst.out];have:=Mk a c l;show _<=_;unfold maxLen;omega
  have hR0:Hid (∀W:World,Rd (W.alloc (.cells #[.string s,.int .i64 0] 200)) W.heap.size s 0):=fun W=>Rd.new W s 0;have HRn:Hid (∀(W:World) (b:Nat),Rd W b s 0->Calls prog 136 #[.pointer (some ⟨b,0,none⟩)] W fun e w'=>∃l0 b1 m1 o1 b2 m2 o2 b3 m3 o3,e=.returned (.agg #[.bool l0,.slice b1 m1 o1,.slice b2 m2 o2,.slice b3 m3 o3])/\OwN w' W.heap.size l0 (.slice b1 m1 o1) (.slice b2 m2 o2) (.slice b3 m3 o3) nd/\Rd w' b st.1 st.2/\Kp (only b) W w'):=by
   intro W b hW;rw[hse]at hW;rw[<-Hnd.out,<-Hst.out];exact I6 b a c l W hW (by omega)
  obtain⟨T,HT⟩:∃T,Hid (rawR st.1 st.2 (st.1.size:Int)=T):=⟨_,rfl⟩;have HRaw:Hid (∀(W:World) (b:Nat),Rd W b st.1 st.2->Calls prog 137 #[.pointer (some ⟨b,0,none⟩),.int .i64 (st.1.size:Int)] W fun y w'=>y=.returned (.string T)/\(∃s2,Rd w' b s2 st.2)/\Kp (only b) W w'):=by
   intro W b hW;refine(Ll b st.1 st.2 (st.1.size:Int) W hW HSS.out).mono ?_;rintro y w' ⟨rfl,h1,h2⟩;rw[(Lj st.1 st.2).1]at h1;exact⟨by rw[HT.out],⟨_,h1⟩,Kp.ofGrown h2 (fun k hk _=>by cases hk;rfl)⟩
  obtain⟨Z,HZZ⟩:∃Z:ByteArray,Hid ((⟨(Lib.trimB T.data.toList 0).toArray⟩:ByteArray)=Z):=⟨_,hide rfl⟩;have HTs:Hid (T.size<=9223372036854775807):=by
   rw[<-HT.out];have h1:=Ek st.1 st.2 (st.1.size:Int);have h2:=HSS.out;unfold maxLen at h2;show _<=_;omega
  have HTr:Hid (∀W:World,Calls prog 140 #[.string T,.string ⟨#[0]⟩] W fun e w'=>e=.returned (.string Z)/\Kp none' W w'):=by
   intro W;refine(strings_Trim_one T 0 (by decide) W HTs.out).mono ?_;rintro e w' ⟨rfl,h⟩;refine⟨by rw[HZZ.out],?_⟩;rcases h with h|h
   ·rw[h];exact Kp.refl _ _
   ·rw[h];exact Kp.drew _ _
  have HZe:Hid (st.2=0->(Z.toList.isEmpty=true↔∀x∈st.1.data.toList,x=0)):=by
   intro h0;rw[LO Z _ HZZ.out.symm,List.isEmpty_iff,MF,<-HT.out,(Lj st.1 st.2).2 h0]
  obtain⟨E,HE⟩:∃E,Hid (st.2=E):=⟨_,rfl⟩;have HEQ:Hid (nrdE s=(if E=0/\nd.right=true/\Z.toList.isEmpty=true then 0 else 10)/\rdO s=(if E=0/\nd.right=true/\Z.toList.isEmpty=true then nd else ⟨false,[],[],[]⟩)):=by
   have h1:=HRA.out;rw[HE.out]at h1;have h2:(E=0/\nd.right=true/\∀x∈st.1.data.toList,x=0)↔(E=0/\nd.right=true/\Z.toList.isEmpty=true):=by
    constructor
    ·rintro ⟨x1,x2,x3⟩;exact⟨x1,x2,(HZe.out (by rw[HE.out];exact x1)).2 x3⟩
    ·rintro ⟨x1,x2,x3⟩;exact⟨x1,x2,(HZe.out (by rw[HE.out];exact x1)).1 x3⟩
   unfold nrdE rdO;rw[h1];by_cases hc:E=0/\nd.right=true/\Z.toList.isEmpty=true
   ·rw[if_pos (h2.2 hc),if_pos hc,if_pos hc];exact⟨rfl,rfl⟩
   ·rw[if_neg (fun h=>hc (h2.1 h)),if_neg hc,if_neg hc];exact⟨rfl,rfl⟩
  have HG:E=0->nd.right=true->Z.toList.isEmpty=true->Hid (nrdE s=0/\rdO s=nd):=by
   intro h1 h2 h3;have h:=HEQ.out;rw[if_pos ⟨h1,h2,h3⟩,if_pos ⟨h1,h2,h3⟩]at h;exact h
  have HF:¬(E=0/\nd.right=true/\Z.toList.isEmpty=true)->Hid (nrdE s=10/\rdO s=⟨false,[],[],[]⟩):=by
   intro h1;have h:=HEQ.out;rw[if_neg h1,if_neg h1]at h;exact h
  replace HG:=hide HG;replace HF:=hide HF;clear HEQ;rw[HE.out]at HRn HRaw;have h256':((s.size:Int) != 256)=false:=by simp[h256]
  have h256i:(s.size:Int)=256:=by omega
  obtain⟨S1,HS1⟩:∃q,Hid (st.1=q):=⟨_,rfl⟩;rw[HS1.out]at HRn HRaw;have HLT:Hid (w.heap.size<(w.alloc (.cells #[.bool false,.slice none 0 0,.slice none 0 0,.slice none 0 0] 35)).heap.size):=n2.lt;clear h256 hse hl;go_enter func99,ntmps99;go_upto_region 1 with fail;generalize w.alloc (.cells #[.bool false,.slice none 0 0,.slice none 0 0,.slice none 0 0] 35)=w0 at *;have n3:=n2.kept (Kp.alloc none' w0 (.cells #[.string s,.int .i64 0] 200)) (fun h=>h);have hRa:=hR0.out w0
  have hkr:Kp none' w0 (w0.alloc (.cells #[.string s,.int .i64 0] 200)):=Kp.alloc _ _ _;go_upto_region 4 with (first
   | (go_at_call 104;refine(Nk s _).mono ?_;rintro e w1 ⟨rfl,hw1⟩;obtain rfl:=hw1)
   | fail)
  generalize w0.alloc (.cells #[.string s,.int .i64 0] 200)=w1 at *;obtain⟨bR,HbR⟩:∃q,Hid (w0.heap.size=q):=⟨_,rfl⟩;rw[HbR.out]at hRa |-;have HB1:Hid (w.heap.size<bR/\bR<w1.heap.size):=by have:=HLT.out;have:=HbR.out;have:=hRa.lt;show _/\_;omega
  have hKr:Kp none' w w1:=hK0.thenN hkr;go_upto_region 5 with (first
   | (go_at_call 136;refine(HRn.out _ bR hRa).mono ?_;rintro e w2 ⟨l0,b1,m1,o1,b2,m2,o2,b3,m3,o3,rfl,hN2,hR2,hk2⟩)
   | fail)
  have n4:=n3.kept hk2 (fun e=>by unfold only at e;have:=HB1.out;omega);have n5:=Nb.new w2 l0 (.slice b1 m1 o1) (.slice b2 m2 o2) (.slice b3 m3 o3);have hka:Kp none' w2 (w2.alloc (.cells #[.bool l0,.slice b1 m1 o1,.slice b2 m2 o2,.slice b3 m3 o3] 35)):=Kp.alloc _ _ _;obtain⟨g5,Hg5⟩:∃q,Hid (w2.heap.size=q):=⟨_,rfl⟩;rw[Hg5.out]at n5 |-;have HB2:Hid (w1.heap.size<=g5):=by have:=hk2.size;have:=Hg5.out;show _<=_;omega
  generalize w2.alloc (.cells #[.bool l0,.slice b1 m1 o1,.slice b2 m2 o2,.slice b3 m3 o3] 35)=w3 at *;replace n4:=n4.kept hka (fun h=>h);have hR3:=hR2.keptK hka (fun h=>h);have hN3:=hN2.kept hka (fun _ _ _ h=>h);have hK3:Kp none' w w3:=(hKr.trans hk2 (fun _ _ h=>h) (fun k hk e=>absurd hk (by unfold only at e;have:=HB1.out;omega))).thenN hka;clear hRa hkr n3 n2 hR2 hN2 hKr hk2 hka;go_upto_region 6 with (first
   | (go_at_call 138;refine(NO bR S1 E _ hR3).mono ?_;rintro e w4 ⟨rfl,hw4⟩;obtain rfl:=hw4.symm)
   | (go_at_call 137;refine(HRaw.out _ bR hR3).mono ?_;rintro e w5 ⟨rfl,⟨s2,hR5⟩,hk5⟩)
   | fail)
  replace n4:=n4.kept hk5 (fun e=>by unfold only at e;have:=HB1.out;omega);replace n5:=n5.kept hk5 (fun e=>by unfold only at e;have:=HB1.out;have:=HB2.out;omega);have hN5:=hN3.kept hk5 (fun k h1 _ e=>by unfold only at e;have:=HB1.out;omega);have hK5:Kp none' w w5:=hK3.trans hk5 (fun _ _ h=>h) (fun k hk e=>absurd hk (by unfold only at e;have:=HB1.out;omega));clear hR3 hN3 hK3 hk5
  have HMb:Hid (∀W:World,Kp none' w5 W->Calls prog 26 #[.agg #[.bool l0,.slice b1 m1 o1,.slice b2 m2 o2,.slice b3 m3 o3]] W fun e w'=>e=.returned (.bool nd.right)/\Kp none' w5 w'):=fun W hk=>(Cw _ nd _ W (hN5.nv.keptN hk)).mono (by rintro e w' ⟨rfl,h⟩;exact⟨rfl,hk.thenN h⟩);have x0:=n5.c0;have x1:=n5.c1;have x2:=n5.c2;have x3:=n5.c3;by_cases hE0:E=0
  ·subst hE0;cases hr:nd.right with
   | true =>
    cases hz:Z.toList.isEmpty with
    | true =>
     have HIF:=HG.out rfl hr hz;clear HG HF;go_upto_region 8 with (first
      | (go_at_call 139;refine(DG bR s2 0 _ hR5).mono ?_;rintro e w6 ⟨rfl,hw6⟩;obtain rfl:=hw6.symm)
      | (go_at_call 26;refine(HMb.out _ (Kp.refl _ _)).mono ?_;rintro e w7 ⟨rfl,hk7⟩;rw[hr])
      | (go_at_call 140;refine(HTr.out _).mono ?_;rintro e w8 ⟨rfl,hk8⟩)
      | fail)
     have n8:=(n4.kept hk7 (fun h=>h)).kept hk8 (fun h=>h);have m8:=(n5.kept hk7 (fun h=>h)).kept hk8 (fun h=>h);have hN8:=(hN5.kept hk7 (fun _ _ _ h=>h)).kept hk8 (fun _ _ _ h=>h);have hK8:=(hK5.thenN hk7).thenN hk8;have y0:=m8.c0;have y1:=m8.c1;have y2:=m8.c2;have y3:=m8.c3;clear x0 x1 x2 x3;go_wp2_with (first
      | (refine Aj rfl rfl (.tmp 2) (.tmp 33) rfl w.heap.size rfl rfl n8 ?_;clear n8;intro w9 n8 hk9)
      | fail)
     refine bodyPost_ret (AE rfl _ w.heap.size _ _ rfl rfl n8) rfl ?_;rw[HIF.out.1,HIF.out.2];refine⟨_,_,_,_,_,_,_,_,_,_,rfl,(hN8.kept hk9 (fun k h1 _ e=>by unfold only at e;have:=HB1.out;omega)).mono (by have:=HB1.out;omega),?_⟩;exact hK8.trans hk9 (fun _ _ h=>h) (fun k hk e=>absurd hk (by unfold only at e;omega))
    | false =>
     have HIF:=HF.out (fun h=>by rw[hz]at h;exact absurd h.2.2 (by decide));clear HG HF;go_upto_region 7 with (first
      | (go_at_call 139;refine(DG bR s2 0 _ hR5).mono ?_;rintro e w6 ⟨rfl,hw6⟩;obtain rfl:=hw6.symm)
      | (go_at_call 26;refine(HMb.out _ (Kp.refl _ _)).mono ?_;rintro e w7 ⟨rfl,hk7⟩;rw[hr])
      | (go_at_call 140;refine(HTr.out _).mono ?_;rintro e w8 ⟨rfl,hk8⟩)
      | fail)
     have n8:=((n4.kept hk7 (fun h=>h)).kept hk8 (fun h=>h));have hK8:=((hK5.thenN hk7).thenN hk8);go_wp2_with (first
      | (refine Aj rfl rfl (.tmp 2) (.tmp 32) rfl w.heap.size rfl rfl n8 ?_;clear n8;intro w9 n8 hk9)
      | fail)
     refine bodyPost_ret (AE rfl _ w.heap.size _ _ rfl rfl n8) rfl ?_;rw[HIF.out.1,HIF.out.2];exact⟨_,_,_,_,_,_,_,_,_,_,rfl,HZ'.out _,hK8.trans hk9 (fun _ _ h=>h) (fun k hk e=>absurd hk (by unfold only at e;omega))⟩
   | false =>
    have HIF:=HF.out (fun h=>by rw[hr]at h;exact absurd h.2.1 (by decide));clear HG HF;go_upto_region 7 with (first
     | (go_at_call 139;refine(DG bR s2 0 _ hR5).mono ?_;rintro e w6 ⟨rfl,hw6⟩;obtain rfl:=hw6.symm)
     | (go_at_call 26;refine(HMb.out _ (Kp.refl _ _)).mono ?_;rintro e w7 ⟨rfl,hk7⟩;rw[hr])
     | (go_at_call 140;refine(HTr.out _).mono ?_;rintro e w8 ⟨rfl,hk8⟩)
     | fail)
    have n8:=(n4.kept hk7 (fun h=>h));have hK8:=(hK5.thenN hk7);go_wp2_with (first
     | (refine Aj rfl rfl (.tmp 2) (.tmp 32) rfl w.heap.size rfl rfl n8 ?_;clear n8;intro w9 n8 hk9)
     | fail)
    refine bodyPost_ret (AE rfl _ w.heap.size _ _ rfl rfl n8) rfl ?_;rw[HIF.out.1,HIF.out.2];exact⟨_,_,_,_,_,_,_,_,_,_,rfl,HZ'.out _,hK8.trans hk9 (fun _ _ h=>h) (fun k hk e=>absurd hk (by unfold only at e;omega))⟩
  ·have hEb:(E != 0)=true:=by simp[hE0]
   have HE0:=hide hE0;clear hE0;have HIF:=HF.out (fun h=>HE0.out h.1);clear HG HF;go_upto_region 7 with (first
    | (go_at_call 139;refine(DG bR s2 E _ hR5).mono ?_;rintro e w6 ⟨rfl,hw6⟩;obtain rfl:=hw6.symm)
    | (go_at_call 26;refine(HMb.out _ (Kp.refl _ _)).mono ?_;rintro e w7 ⟨rfl,hk7⟩)
    | (go_at_call 140;refine(HTr.out _).mono ?_;rintro e w8 ⟨rfl,hk8⟩)
    | fail)
   have n8:=n4;have hK8:=hK5;go_wp2_with (first
    | (refine Aj rfl rfl (.tmp 2) (.tmp 32) rfl w.heap.size rfl rfl n8 ?_;clear n8;intro w9 n8 hk9)
    | fail)
   refine bodyPost_ret (AE rfl _ w.heap.size _ _ rfl rfl n8) rfl ?_;rw[HIF.out.1,HIF.out.2];exact⟨_,_,_,_,_,_,_,_,_,_,rfl,HZ'.out _,hK8.trans hk9 (fun _ _ h=>h) (fun k hk e=>absurd hk (by unfold only at e;omega))⟩
 ·have h256':((s.size:Int) != 256)=true:=by
   rw[bne_iff_ne];intro e;exact h256 (by omega)
  have HEQ:Hid (nrdE s=10/\rdO s=⟨false,[],[],[]⟩):=by
   have h1:readN s=none:=by
    cases h2:readN s with
    | none=>rfl
    | some n =>
     obtain⟨h3,h4⟩:=(Cn s n).1 h2;exact absurd (by rw[<-h4,AB,CO h3]) h256
   unfold nrdE rdO;rw[h1];exact⟨rfl,rfl⟩
  rw[HEQ.out.1,HEQ.out.2];clear h256;go_enter func99,ntmps99;go_upto_region 1 with fail;generalize w.alloc (.cells #[.bool false,.slice none 0 0,.slice none 0 0,.slice none 0 0] 35)=w0 at *;go_wp2_with (first
   | (refine Aj rfl rfl (.tmp 2) (.tmp 10) rfl w.heap.size rfl rfl n2 ?_;clear n2;intro w9 n2 hk9)
   | fail)
  refine bodyPost_ret (AE rfl _ w.heap.size _ _ rfl rfl n2) rfl ?_;exact⟨_,_,_,_,_,_,_,_,_,_,rfl,HZ'.out _,hK0.trans hk9 (fun _ _ h=>h) (fun k hk e=>absurd hk (by unfold only at e;omega))⟩
end Go.Proofs.YtgcgacjhkhjhmaaGreatDoor
