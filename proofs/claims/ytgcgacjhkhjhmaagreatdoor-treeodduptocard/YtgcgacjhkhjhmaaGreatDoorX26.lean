/- Part of the proof: contracts over the turned program. -/
import Derived.Test.YtgcgacjhkhjhmaaGreatDoorX16
import Derived.Test.YtgcgacjhkhjhmaaGreatDoorX24
set_option linter.unusedVariables false
set_option maxHeartbeats 4000000
open Go.Proofs.Tryz
namespace Go.Proofs.YtgcgacjhkhjhmaaGreatDoor
open Go Go.RowKit
theorem Fn(a b:ByteArray):Op.bytesLess a.toList b.toList=lessB a b:=by unfold lessB;rw[ByteArray.toList_eq,ByteArray.toList_eq]
theorem Pa(a b:ByteArray):(!lessB b a)=(lessB a b||decide (a=b)):=by
 cases h:lessB a b with
 | true=>rw[AU h];rfl
 | false =>
  cases h':lessB b a with
  | true =>
   have:a≠b:=fun e=>by rw[e,AD]at h';cases h'
   simp[this]
  | false=>simp[BB h h']
theorem GW(s:ByteArray):s.toList.isEmpty=(s.size==0):=by
 rw[ByteArray.toList_eq];have h:s.data.toList.length=s.size:=Av s;cases e:s.data.toList with
 | nil=>rw[e]at h;simp at h;simp[<-h]
 | cons x l=>rw[e]at h;simp at h;simp[<-h]
set_option maxRecDepth 100000 in
theorem CG(k fr up:ByteArray)(w:World) :
  Calls prog 101 #[.string k,.string fr,.string up] w fun e w'=>e=.returned (.bool (inB k fr up))/\w'=w:=by
 have e1:=Fn fr k;have e2:=Fn k up;have e3:=GW up;have e4:=Kv fr k;have HI:Hid (inB k fr up=((lessB fr k||decide (fr=k))&&(up.size==0||lessB k up))):=by show _=_;unfold inB;rw[Pa]
 rw[HI.out];clear HI;cases h1:lessB fr k<;>cases h2:lessB k up<;>cases h3:(up.size==0)<;>cases h4:decide (fr=k)
 all_goals
  rw[h1]at e1;rw[h2]at e2;rw[h3]at e3;rw[h4]at e4;clear h1 h2 h3 h4;go_enter func101,ntmps101;go_wp2;go_ret;exact⟨rfl,rfl⟩
def Wl(w:World)(b r k:Nat)(xs:List Value)(t:TypeId):Prop:=w.heap[b]?=some (.cells (.pointer (some ⟨r,0,none⟩)::.int .i64 (k:Int)::xs).toArray t (0,0))
theorem Wl.c0{w:World}{b r k:Nat}{xs:List Value}{t:TypeId}(h:Wl w b r k xs t):w.cell? ⟨b,0,none⟩=some (.pointer (some ⟨r,0,none⟩)):=by rw[cell_of_row w b 0 _ t (0,0) h];simp
theorem Wl.c1{w:World}{b r k:Nat}{xs:List Value}{t:TypeId}(h:Wl w b r k xs t):w.cell? ⟨b,1,none⟩=some (.int .i64 (k:Int)):=by rw[cell_of_row w b 1 _ t (0,0) h];simp
theorem Wl.cx{w:World}{b r k:Nat}{xs:List Value}{t:TypeId}(h:Wl w b r k xs t)(j:Nat):w.cell? ⟨b,j+2,none⟩=xs[j]?:=by rw[cell_of_row w b (j+2) _ t (0,0) h];simp
theorem Wl.fz{w:World}{b r k:Nat}{xs:List Value}{t:TypeId}(h:Wl w b r k xs t)(j:Nat):w.frozen? ⟨b,j,none⟩=false:=by
 unfold World.frozen?;rw[show w.heap[(⟨b,j,none⟩:Addr).block]?=_ from h];simp
theorem Wl.lt{w:World}{b r k:Nat}{xs:List Value}{t:TypeId}(h:Wl w b r k xs t):b<w.heap.size:=(Array.getElem?_eq_some_iff.1 h).1
theorem Wl.kept{w w':World}{b r k:Nat}{xs:List Value}{t:TypeId}{S:Nat->Prop}(h:Wl w b r k xs t)(hk:Kp S w w')(hS:¬S b):Wl w' b r k xs t:=by
 unfold Wl;rw[hk.block b h.lt hS];exact h
theorem Wl.set1{w:World}{b r k:Nat}{xs:List Value}{t:TypeId}(h:Wl w b r k xs t)(m:Nat):Wl (w.setCell ⟨b,1,none⟩ (.int .i64 (m:Int))) b r m xs t:=by
 unfold Wl;rw[heap_setCell_same w b 1 _ t _ h];simp
theorem Wl.setX{w:World}{b r k:Nat}{xs:List Value}{t:TypeId}(h:Wl w b r k xs t)(j:Nat)(x:Value):Wl (w.setCell ⟨b,j+2,none⟩ x) b r k (xs.set j x) t:=by
 unfold Wl;rw[heap_setCell_same w b (j+2) _ t _ h];simp
theorem PX{S:Sw}{z:Int}(h:(S.read z).2=0):ndE S z=nrdE (S.read z).1/\ndOf S z=rdO (S.read z).1:=by
 unfold ndE ndOf nrdE rdO nd0;rw[if_pos h,if_pos h];exact⟨rfl,rfl⟩
theorem Wk.read_size{w:World}{r:Nat}{V:Nat->Prop}{c m:Nat}{S:Sw}(h:Wk w r V c m S)(z:Int):(S.read z).1.size<=256:=by
 rcases h with ⟨hov,_⟩|⟨hov,gP,P,NL,hW,hA,_,_⟩
 ·unfold Sw.read;rw[hov];exact Nat.zero_le _
 ·unfold Sw.read;rw[hov];simp only[Bool.false_eq_true,if_false];split
  ·rw[List.getD_eq_getElem?_getD];cases e:S.now[z.toNat]? with
   | none=>exact Nat.zero_le _
   | some x =>
    have:=hA.sz x (List.mem_of_getElem? e);simp only[Option.getD_some];omega
  ·exact Nat.zero_le _
theorem OwN.none(w:World)(base:Nat):OwN w base false (.slice none 0 0) (.slice none 0 0) (.slice none 0 0) nd0:=⟨rfl,OwP.nil _ _,Ow.nil _ _ _ _,Ow.nil _ _ _ _,⟨by simp[nd0],by simp[nd0],by simp[nd0]⟩,fun h=>absurd rfl h,fun h=>absurd rfl h⟩
def B2(b r k:Nat)(z lv:Int)(xs:List Value)(t:TypeId)(S:Sw)(w w':World)(e:Ending):Prop:=∃l a1 n1 c1 a2 n2 c2 a3 n3 c3,e=.returned (.tuple #[.agg #[.bool l,.slice a1 n1 c1,.slice a2 n2 c2,.slice a3 n3 c3],.int .i64 (trE S k z lv)])/\OwN w' w.heap.size l (.slice a1 n1 c1) (.slice a2 n2 c2) (.slice a3 n3 c3) (trN S k z lv)/\Wl w' b r (trK S k z) xs t/\Kp (only b) w w'
set_option maxRecDepth 100000 in
theorem CE(b r k:Nat)(z lv:Int)(xs:List Value)(t:TypeId)(V:Nat->Prop)(c m:Nat)(S:Sw)(w:World)(hW:Wl w b r k xs t)(H:Wk w r V c m S)(hk:k<=100000) :
  Calls prog 68 #[.pointer (some ⟨b,0,none⟩),.int .i64 z,.int .i64 lv] w fun e w'=>B2 b r k z lv xs t S w w' e:=by
 have hK0:Kp none' w (w.alloc (.cells #[.bool false,.slice none 0 0,.slice none 0 0,.slice none 0 0] 35)):=Kp.alloc _ _ _;have n2:=Nb.new w false (.slice none 0 0) (.slice none 0 0) (.slice none 0 0);have hbl:=hW.lt;have hrs:=H.read_size z;replace H:=H.keptN hK0;replace hW:=hW.kept hK0 (fun h=>h);have c0:=hW.c0;obtain⟨E,HE⟩:∃q,Hid ((S.read z).2=q):=⟨_,rfl⟩;obtain⟨x,Hx⟩:∃q,Hid ((S.read z).1=q):=⟨_,rfl⟩;rw[Hx.out]at hrs
 have HRD:Hid (∀W:World,Wk W r V c m S->Calls prog 98 #[.pointer (some ⟨r,0,none⟩),.int .i64 z] W fun e w'=>e=.returned (.tuple #[.string x,.int .i64 E])/\w'=W):=by
  intro W hW;have:=Mz r z V c m S W hW;rw[HE.out,Hx.out]at this;exact this
 by_cases h0:E=0
 ·have hE:=HE.out;rw[h0]at hE;obtain⟨e1,e2⟩:=PX hE;rw[Hx.out]at e1 e2;obtain⟨F,HF⟩:∃q,Hid (nrdE x=q):=⟨_,rfl⟩;rw[HF.out]at e1;have HO:Hid (∀W:World,Calls prog 99 #[.string x] W fun e w'=>∃l a1 n1 c1 a2 n2 c2 a3 n3 c3,e=.returned (.tuple #[.agg #[.bool l,.slice a1 n1 c1,.slice a2 n2 c2,.slice a3 n3 c3],.int .i64 F])/\OwN w' W.heap.size l (.slice a1 n1 c1) (.slice a2 n2 c2) (.slice a3 n3 c3) (ndOf S z)/\Kp none' W w'):=by
   intro W;have:=Ml x W (by unfold maxLen;omega);rw[HF.out,<-e2]at this;exact this
  subst h0;have HWE:Hid (trE S k z lv=if F=0 then (if 40<lv\/1000<=k then 10 else 0) else F):=by show _=_;unfold trE;rw[e1]
  have HWK:Hid (trK S k z=if F=0 then k+1 else k):=by show _=_;unfold trK;rw[e1]
  clear hE e1 e2;go_enter func68,ntmps68;go_upto_region 1 with fail;generalize w.alloc (.cells #[.bool false,.slice none 0 0,.slice none 0 0,.slice none 0 0] 35)=w0 at *;have HLT:Hid (w.heap.size<w0.heap.size):=n2.lt;go_upto_region 4 with (first
   | (go_at_call 98;refine(HRD.out _ H).mono ?_;rintro e w1 ⟨rfl,hw1⟩;obtain rfl:=hw1)
   | fail)
  go_upto_region 5 with (first
   | (go_at_call 99;refine(HO.out _).mono ?_;rintro e w2 ⟨l,a1,n1,k1,a2,m2,k2,a3,n3,k3,rfl,hO,hk2⟩)
   | fail)
  have n5:=Nb.new w2 l (.slice a1 n1 k1) (.slice a2 m2 k2) (.slice a3 n3 k3);have hka:Kp none' w2 (w2.alloc (.cells #[.bool l,.slice a1 n1 k1,.slice a2 m2 k2,.slice a3 n3 k3] 35)):=Kp.alloc _ _ _;obtain⟨g5,Hg5⟩:∃q,Hid (w2.heap.size=q):=⟨_,rfl⟩;rw[Hg5.out]at n5 |-;generalize w2.alloc (.cells #[.bool l,.slice a1 n1 k1,.slice a2 m2 k2,.slice a3 n3 k3] 35)=w3 at *;have HG5:Hid (w.heap.size<g5):=by have:=hk2.size;have:=Hg5.out;have:=HLT.out;show _<_;omega
  replace hO:=hO.kept hka (fun _ _ _ h=>h);replace n2:=(n2.kept hk2 (fun h=>h)).kept hka (fun h=>h);replace hW:=(hW.kept hk2 (fun h=>h)).kept hka (fun h=>h);replace hK0:=(hK0.thenN hk2).thenN hka;clear hk2 hka H c0 HRD HO;by_cases hF:F=0
  ·subst hF;have c1:=hW.c1;have f1:=hW.fz 1;have hst:Kp (only b) w3 (w3.setCell ⟨b,1,none⟩ (.int .i64 ((k+1:Nat):Int))):=Kp.setCell _ _ _ _ rfl;have hW':=hW.set1 (k+1);rw[if_pos rfl]at HWE HWK;go_upto_region 8 with fail;rw[show ((k:Int)+1)=((k+1:Nat):Int) by omega]at *;generalize w3.setCell ⟨b,1,none⟩ (.int .i64 ((k+1:Nat):Int))=w4 at *;replace n2:=n2.kept hst (fun e=>by unfold only at e;omega);replace n5:=n5.kept hst (fun e=>by unfold only at e;have:=HG5.out;omega)
   replace hO:=hO.kept hst (fun j h1 _ e=>by unfold only at e;have:=HLT.out;omega);have hK4:Kp (only b) w w4:=hK0.nThen hst;have c1':=hW'.c1;have x0:=n5.c0;have x1:=n5.c1;have x2:=n5.c2;have x3:=n5.c3;clear hst hW c1 f1 hK0;by_cases h40:40<lv
   ·have HE1:Hid (trE S k z lv=10):=by show _=_;rw[HWE.out,if_pos (.inl h40)]
    have HN1:Hid (trN S k z lv=nd0):=by show _=_;unfold trN;rw[HE1.out,if_neg (by omega)]
    clear HWE;go_wp2_with (first
     | (refine Aj rfl rfl (.tmp 6) (.tmp 49) rfl w.heap.size rfl rfl n2 ?_;clear n2;intro w9 n2 hk9)
     | fail)
    refine bodyPost_ret (AE rfl _ w.heap.size _ _ rfl rfl n2) rfl ?_;unfold B2;rw[HE1.out,HN1.out,HWK.out];exact⟨_,_,_,_,_,_,_,_,_,_,rfl,OwN.none _ _,hW'.kept hk9 (fun e=>by unfold only at e;omega),hK4.trans hk9 (fun _ _ h=>h) (fun j hj e=>absurd hj (by unfold only at e;omega))⟩
   ·by_cases h1000:1000<=k
    ·have h1':(1000:Int)<((k+1:Nat):Int):=by omega
     have HE1:Hid (trE S k z lv=10):=by show _=_;rw[HWE.out,if_pos (.inr h1000)]
     have HN1:Hid (trN S k z lv=nd0):=by show _=_;unfold trN;rw[HE1.out,if_neg (by omega)]
     clear HWE;go_wp2_with (first
      | (refine Aj rfl rfl (.tmp 6) (.tmp 49) rfl w.heap.size rfl rfl n2 ?_;clear n2;intro w9 n2 hk9)
      | fail)
     refine bodyPost_ret (AE rfl _ w.heap.size _ _ rfl rfl n2) rfl ?_;unfold B2;rw[HE1.out,HN1.out,HWK.out];exact⟨_,_,_,_,_,_,_,_,_,_,rfl,OwN.none _ _,hW'.kept hk9 (fun e=>by unfold only at e;omega),hK4.trans hk9 (fun _ _ h=>h) (fun j hj e=>absurd hj (by unfold only at e;omega))⟩
    ·have h1':¬(1000:Int)<((k+1:Nat):Int):=by omega
     have HE1:Hid (trE S k z lv=0):=by show _=_;rw[HWE.out,if_neg (by omega)]
     have HN1:Hid (trN S k z lv=ndOf S z):=by show _=_;unfold trN;rw[HE1.out,if_pos rfl]
     clear HWE;go_wp2_with (first
      | (refine Aj rfl rfl (.tmp 6) (.tmp 50) rfl w.heap.size rfl rfl n2 ?_;clear n2;intro w9 n2 hk9)
      | fail)
     refine bodyPost_ret (AE rfl _ w.heap.size _ _ rfl rfl n2) rfl ?_;unfold B2;rw[HE1.out,HN1.out,HWK.out];exact⟨_,_,_,_,_,_,_,_,_,_,rfl,(hO.kept hk9 (fun j h1 _ e=>by unfold only at e;have:=HLT.out;omega)).mono (by have:=HLT.out;omega),hW'.kept hk9 (fun e=>by unfold only at e;omega),hK4.trans hk9 (fun _ _ h=>h) (fun j hj e=>absurd hj (by unfold only at e;omega))⟩
  ·have hFb:(F != 0)=true:=by simp[hF]
   have HE1:Hid (trE S k z lv=F):=by show _=_;rw[HWE.out,if_neg hF]
   have HN1:Hid (trN S k z lv=nd0):=by show _=_;unfold trN;rw[HE1.out,if_neg hF]
   rw[if_neg hF]at HWK;clear HWE hF;go_wp2_with (first
    | (refine Aj rfl rfl (.tmp 6) (.tmp 31) rfl w.heap.size rfl rfl n2 ?_;clear n2;intro w9 n2 hk9)
    | fail)
   refine bodyPost_ret (AE rfl _ w.heap.size _ _ rfl rfl n2) rfl ?_;unfold B2;rw[HE1.out,HN1.out,HWK.out];exact⟨_,_,_,_,_,_,_,_,_,_,rfl,OwN.none _ _,hW.kept hk9 (fun e=>by unfold only at e;omega),hK0.trans hk9 (fun _ _ h=>by cases h) (fun j hj e=>absurd hj (by unfold only at e;omega))⟩
 ·have hEb:(E != 0)=true:=by simp[h0]
  have HNE:Hid (ndE S z=E):=by show _=_;unfold ndE;rw[HE.out,if_neg h0]
  have HE1:Hid (trE S k z lv=E):=by show _=_;unfold trE;rw[HNE.out,if_neg h0]
  have HN1:Hid (trN S k z lv=nd0):=by show _=_;unfold trN;rw[HE1.out,if_neg h0]
  have HWK:Hid (trK S k z=k):=by show _=_;unfold trK;rw[HNE.out,if_neg h0]
  clear h0;go_enter func68,ntmps68;go_upto_region 1 with fail;generalize w.alloc (.cells #[.bool false,.slice none 0 0,.slice none 0 0,.slice none 0 0] 35)=w0 at *;go_wp2_with (first
   | (go_at_call 98;refine(HRD.out _ H).mono ?_;rintro e w1 ⟨rfl,hw1⟩;obtain rfl:=hw1)
   | (refine Aj rfl rfl (.tmp 6) (.tmp 22) rfl w.heap.size rfl rfl n2 ?_;clear n2;intro w9 n2 hk9)
   | fail)
  refine bodyPost_ret (AE rfl _ w.heap.size _ _ rfl rfl n2) rfl ?_;unfold B2;rw[HE1.out,HN1.out,HWK.out];exact⟨_,_,_,_,_,_,_,_,_,_,rfl,OwN.none _ _,hW.kept hk9 (fun e=>by unfold only at e;omega),hK0.trans hk9 (fun _ _ h=>by cases h) (fun j hj e=>absurd hj (by unfold only at e;omega))⟩
set_option maxRecDepth 100000 in
theorem LW(v:Value)(l:List Int)(z:Int)(B:Nat)(w:World)(h:Sl (Value.int .i64) B w v l) :
  Calls prog 158 #[v,.int .i64 z] w fun e w'=>∃i:Int,e=.returned (.int .i64 i)/\(0<=i↔z∈l)/\w'=w:=by
 obtain⟨a,c,rfl,hlc,hcm,ha⟩:=h;have HA:=hide ha;clear ha;unfold maxLen at hcm;go_enter func158,ntmps158;go_wp2;go_loopw [5,8] (fun _ t wr=>∃j:Nat,j<=l.length/\t=.int .i64 j/\Hid (¬z∈l.take j)/\wr=w) (fun _ t _=>l.length - (intOf t).toNat)
 case atStart=>exact⟨0,Nat.zero_le _,rfl,by show ¬_;simp,rfl⟩
 case round =>
  obtain⟨j,hj,rfl,HN,rfl⟩:=hrel;by_cases hlt:j<l.length
  ·have hlt':(j:Int)<(l.length:Int):=by omega
   obtain⟨b,off,rfl,_,hc⟩:=HA.out j hlt;have HM:Hid (l[j]∈l):=List.getElem_mem hlt;have HT:Hid (¬z=l[j]->¬z∈l.take (j+1)):=by
    intro h1 h2;rw[List.take_succ_eq_append_getElem hlt,List.mem_append,List.mem_singleton]at h2;rcases h2 with h2|h2
    ·exact HN.out h2
    ·exact h1 h2
   generalize l[j]=y at *;by_cases hy:z=y
   ·subst hy;go_wp2;go_ret;exact⟨_,rfl,⟨fun _=>HM.out,fun _=>by omega⟩,rfl⟩
   ·have hyb:(z==y)=false:=by simp[hy]
    have HT':=hide (HT.out hy);clear hy;go_wp2;go_roundw
    case rel=>exact⟨j+1,by omega,by go_num,HT',by first|rfl|trivial⟩
    case measure=>simp[intOf];omega
  ·have hlt':¬(j:Int)<(l.length:Int):=by omega
   have HF:Hid (¬z∈l):=by have:=HN.out;rw[List.take_of_length_le (by omega)]at this;exact this
   go_wp2;go_ret;exact⟨_,rfl,⟨fun h=>by omega,fun h=>absurd h HF.out⟩,rfl⟩
set_option maxRecDepth 100000 in
theorem DA(v:Value)(l:List Int)(z:Int)(B:Nat)(w:World)(h:Sl (Value.int .i64) B w v l) :
  Calls prog 133 #[v,.int .i64 z] w fun e w'=>e=.returned (.bool (l.contains z))/\w'=w:=by
 have hI:=LW v l z B w h;have hv:∃a n c,v=.slice a n c:=by obtain⟨a,c,rfl,_⟩:=h;exact⟨_,_,_,rfl⟩
 obtain⟨a,n,c,rfl⟩:=hv;clear h;go_enter func133,ntmps133;go_wp2_with (first
  | (go_at_call 158;refine hI.mono ?_;rintro e w1 ⟨i,rfl,hi,hw1⟩;obtain rfl:=hw1)
  | fail)
 go_ret;refine⟨?_,rfl⟩;show Ending.returned (Value.bool (decide (z∈l)))=_;congr 2;rw[Bool.eq_iff_iff];simp
def Lm(w:World)(b r:Nat)(G:Nat->Prop)(L:Lo):Prop:=∃pv qv,Wl w b r L.k [pv,qv,.int .i64 L.depth] 94/\Ow (Value.int .i64) 3 w (b+1) pv L.pages/\OwP w (b+1) qv L.pairs/\(∀k,pv.ownBlock=some k->qv.ownBlock≠some k)/\(∀k,pv.ownBlock=some k->G k)/\(∀k,qv.ownBlock=some k->G k)
theorem Lm.lt{w:World}{b r:Nat}{G:Nat->Prop}{L:Lo}(h:Lm w b r G L):b<w.heap.size:=by obtain⟨pv,qv,h1,_⟩:=h;exact h1.lt
theorem Lm.kept{w w':World}{b r:Nat}{G:Nat->Prop}{L:Lo}{S:Nat->Prop}(h:Lm w b r G L)(hk:Kp S w w')(hb:¬S b)(hS:∀k,k<w.heap.size->b<k->G k->¬S k):Lm w' b r G L:=by
 obtain⟨pv,qv,h1,h2,h3,h4,h5,h6⟩:=h;exact⟨pv,qv,h1.kept hk hb,h2.kept hk (fun k e=>hS k (h2.lt k e).2 (h2.lt k e).1 (h5 k e)),h3.kept hk (fun k e=>hS k (h3.lt k e).2 (h3.lt k e).1 (h6 k e)),h4,h5,h6⟩
theorem Lm.keptN{w w':World}{b r:Nat}{G:Nat->Prop}{L:Lo}(h:Lm w b r G L)(hk:Kp none' w w'):Lm w' b r G L:=h.kept hk (fun h=>h) (fun _ _ _ _ h=>h)
theorem Lm.mono{w:World}{b r:Nat}{G G':Nat->Prop}{L:Lo}(h:Lm w b r G L)(hG:∀k,k<w.heap.size->G k->G' k):Lm w b r G' L:=by
 obtain⟨pv,qv,h1,h2,h3,h4,h5,h6⟩:=h;exact⟨pv,qv,h1,h2,h3,h4,fun k e=>hG k (h2.lt k e).2 (h5 k e),fun k e=>hG k (h3.lt k e).2 (h6 k e)⟩
theorem OwP.slice{w:World}{base:Nat}{v:Value}{l:List Pr}(h:OwP w base v l):∃a c,v=.slice a l.length c:=by obtain⟨a,c,e,_⟩:=h.prs;exact⟨a,c,e⟩
theorem src1{P:Program}(w:World)(t e:TypeId)(ht:P.underlying t=some (.slice e))(x:Value)(hx:x.oneCell'=true)(g:Nat)(hg:w.heap.size=g):Src P 1 t (.slice (some ⟨g,0,none⟩) 1 1) 1 [x] (w.alloc (.cells #[x] e)):=by
 subst hg;refine Src.ofSlice (e':=e) _ ht ⟨w.heap.size,0,none⟩ 1 1 [x] (by simp) ?_ (by intro u hu;simp at hu;subst hu;exact hx);intro j u hj;match j,hj with
 | 0,hj=>simp at hj;subst hj;simp[Addr.add]
 | (j+1),hj=>simp at hj
set_option maxRecDepth 100000 in
theorem IN(b r:Nat)(z:Int)(G:Nat->Prop)(L:Lo)(w:World)(h:Lm w b r G L)(hl:L.pages.length<=100000) :
  Calls prog 100 #[.pointer (some ⟨b,0,none⟩),.int .i64 z] w fun e w'=>e=.returned (.bool (!L.pages.contains z))/\Lm w' b r (fun k=>G k\/w.heap.size<=k) (L.meet z)/\Kp (fun k=>k=b\/G k) w w':=by
 have h':=h;obtain⟨pv,qv,hW,hO,hP,hne,hG1,hG2⟩:=h';obtain⟨a,c,e⟩:=hO.open;obtain⟨rfl,_⟩:=e;have hC:=DA _ L.pages z _ w hO.sl;have c2:=hW.cx 0;simp only[List.getElem?_cons_zero,Nat.zero_add]at c2;cases hm:L.pages.contains z with
 | true =>
  rw[hm]at hC;have e1:L.meet z=L:=by unfold Lo.meet;rw[hm];rfl
  rw[e1];clear e1 hO hP hne hW;go_enter func100,ntmps100;go_wp2_with (first
   | (go_at_call 133;refine hC.mono ?_;rintro e w1 ⟨rfl,hw1⟩;obtain rfl:=hw1)
   | fail)
  go_ret;exact⟨rfl,h.mono (fun _ _ h=>.inl h),Kp.refl _ _⟩
 | false =>
  rw[hm]at hC;have e1:L.meet z={ L with pages:=L.pages++[z] }:=by unfold Lo.meet;rw[hm];rfl
  rw[e1];have hKA:Kp none' w (w.alloc (.cells #[.int .i64 z] 3)):=Kp.alloc _ _ _;have hbl:=hW.lt;obtain⟨v3,w3,hq3,hO3,hg3,hv3⟩:=appI (w.alloc (.cells #[.int .i64 z] 3)) (b+1) (.slice a L.pages.length c) (.slice (some ⟨w.heap.size,0,none⟩) 1 1) L.pages [z] (hO.keptN hKA) (src1 w 33 3 underlying33 _ rfl _ rfl) (Nat.le_trans hbl hKA.size) (by simp;omega);have hk3:Kp (fun k=>(Value.slice a L.pages.length c).ownBlock=some k) w w3:=hKA.nThen (Kp.ofGrown hg3 (fun k hk _=>hk))
  have hW3:=hW.kept hk3 (fun e=>by have:=(hO.lt b e).1;omega);have hP3:=hP.kept hk3 (fun k hk e=>hne k e hk);have hne3:∀k,v3.ownBlock=some k->qv.ownBlock≠some k:=by
   intro k hk hk';rcases hv3 with e|e
   ·rw[e]at hk;exact hne k hk hk'
   ·rw[e]at hk;have h1:=(hP.lt k hk').2;have h2:=Option.some.inj hk;have h3:w.heap.size<(w.alloc (.cells #[.int .i64 z] 3)).heap.size:=by simp
    omega
  obtain⟨a4,c4,e4⟩:∃a c,v3=.slice a (L.pages++[z]).length c:=by obtain⟨a,c,h1,_⟩:=hO3.open;exact⟨a,c,h1⟩
  obtain⟨n4,Hn4⟩:∃m,Hid ((L.pages++[z]).length=m):=⟨_,rfl⟩;rw[Hn4.out]at e4;subst e4;have d2:=hW3.cx 0;simp only[List.getElem?_cons_zero,Nat.zero_add]at d2;have f2:=hW3.fz 2;have hst:Kp (only b) w3 (w3.setCell ⟨b,2,none⟩ (.slice a4 n4 c4)):=Kp.setCell _ _ _ _ rfl;have hW4:=hW3.setX 0 (.slice a4 n4 c4);simp only[Qb,Nat.zero_add]at hW4;have hO4:=hO3.kept hst (fun k hk e=>by unfold only at e;have:=(hO3.lt k hk).1;omega)
  have hP4:=hP3.kept hst (fun k hk e=>by unfold only at e;have:=(hP3.lt k hk).1;omega);have hK4:Kp (fun k=>k=b\/G k) w (w3.setCell ⟨b,2,none⟩ (.slice a4 n4 c4)):=(hk3.mono (fun k _ e=>.inr (hG1 k e))).then (hst.mono (fun k _ e=>.inl e));have hG3:∀k,(Value.slice a4 n4 c4).ownBlock=some k->G k\/w.heap.size<=k:=by
   intro k hk;rcases hv3 with e|e
   ·rw[e]at hk;exact .inl (hG1 k hk)
   ·rw[e]at hk;have h2:=Option.some.inj hk;have h3:w.heap.size<(w.alloc (.cells #[.int .i64 z] 3)).heap.size:=by simp
    exact .inr (by omega)
  have HEND:Hid (Lm (w3.setCell ⟨b,2,none⟩ (.slice a4 n4 c4)) b r (fun k=>G k\/w.heap.size<=k) { L with pages:=L.pages++[z] }/\Kp (fun k=>k=b\/G k) w (w3.setCell ⟨b,2,none⟩ (.slice a4 n4 c4))):=⟨⟨_,_,hW4,hO4,hP4,hne3,hG3,fun k hk=>.inl (hG2 k hk)⟩,hK4⟩;clear hW4 hO4 hP4 hne3 hK4 hst hP3 hO3 hg3 hv3 hP hO hne h e1 hk3 hG3 hG1 hG2;go_enter func100,ntmps100;go_wp2_with (first
   | (go_at_call 133;refine hC.mono ?_;rintro e w1 ⟨rfl,hw1⟩;obtain rfl:=hw1)
   | (at_builtin;refine Ak rfl (.tmp 15) (.tmp 17) 33 33 rfl _ _ rfl rfl hq3 ?_)
   | fail)
  go_ret;exact⟨rfl,HEND.out.1,HEND.out.2⟩
structure SpV where
 pg:Int
 l:Bool
 a1:Option Addr
 n1:Nat
 c1:Nat
 a2:Option Addr
 n2:Nat
 c2:Nat
 a3:Option Addr
 n3:Nat
 c3:Nat
 kid:Int
 was:Int
def SpV.p(x:SpV):Value:=.slice x.a1 x.n1 x.c1
def SpV.k(x:SpV):Value:=.slice x.a2 x.n2 x.c2
def SpV.d(x:SpV):Value:=.slice x.a3 x.n3 x.c3
def SpV.cells(x:SpV):List Value:=[.int .i64 x.pg,.bool x.l,.slice x.a1 x.n1 x.c1,.slice x.a2 x.n2 x.c2,.slice x.a3 x.n3 x.c3,.int .i64 x.kid,.int .i64 x.was]
def SpV.node(x:SpV):Value:=.agg #[.bool x.l,.slice x.a1 x.n1 x.c1,.slice x.a2 x.n2 x.c2,.slice x.a3 x.n3 x.c3]
def SpV.own(x:SpV)(k:Nat):Prop:=x.p.ownBlock=some k\/x.k.ownBlock=some k\/x.d.ownBlock=some k
def stcs(l:List SpV):List Value:=l.flatMap SpV.cells
theorem Jg(l m:List SpV):stcs (l++m)=stcs l++stcs m:=by simp[stcs]
theorem Ls(l:List SpV):∀(i j:Nat) (h:i<l.length),j<7->(stcs l)[i*7+j]?=(SpV.cells l[i])[j]?:=by
 induction l with
 | nil=>intro i j h;simp at h
 | cons x l ih =>
  intro i j h hj;have e:stcs (x::l)=SpV.cells x++stcs l:=by simp[stcs]
  rw[e];rcases i with _|i
  ·rw[List.getElem?_append_left (by simp[SpV.cells];omega)];simp
  ·rw[List.getElem?_append_right (by simp[SpV.cells];omega)];have h2:=ih i j (by simpa using h) hj;have e2:(i+1)*7+j - (SpV.cells x).length=i*7+j:=by simp[SpV.cells];omega
   rw[e2,h2];simp
structure SpIs (w:World) (base:Nat) (x:SpV) (s:Sp):Prop where
 nd:OwN w base x.l x.p x.k x.d s.nd
 pg:x.pg=s.page
 kid:x.kid=(s.kid:Int)
 was:x.was=(s.was:Int)
theorem OwN.blocks{w:World}{base:Nat}{l:Bool}{x:SpV}{n:Nd}(h:OwN w base l x.p x.k x.d n)(k:Nat)(hk:x.own k):base<=k/\k<w.heap.size:=by
 rcases hk with hk|hk|hk
 ·exact h.p.lt k hk
 ·exact h.k.lt k hk
 ·exact h.d.lt k hk
theorem OwN.keptO{w w':World}{base:Nat}{l:Bool}{x:SpV}{n:Nd}{S:Nat->Prop}(h:OwN w base l x.p x.k x.d n)(hk:Kp S w w')(hS:∀k,x.own k->¬S k):OwN w' base l x.p x.k x.d n :=
 ⟨h.l,h.p.kept hk (fun k e=>hS k (.inl e)),h.k.kept hk (fun k e=>hS k (.inr (.inl e))),h.d.kept hk (fun k e=>hS k (.inr (.inr e))),h.wf,h.t,h.np⟩
theorem SpIs.kept{w w':World}{base:Nat}{x:SpV}{s:Sp}{S:Nat->Prop}(h:SpIs w base x s)(hk:Kp S w w')(hS:∀k,x.own k->¬S k):SpIs w' base x s:=⟨h.nd.keptO hk hS,h.pg,h.kid,h.was⟩
structure WayM (w:World) (base:Nat) (v:Value) (xs:List SpV) (ns:List Sp):Prop where
 row:w.ownsRow base 85 7 v xs.length (stcs xs)
 len:xs.length=ns.length
 is:∀i (h:i<xs.length) (h':i<ns.length),SpIs w base xs[i] ns[i]
 dis:∀i j (h:i<xs.length) (h':j<xs.length),i≠j->∀k,xs[i].own k->¬xs[j].own k
 rowd:∀i (h:i<xs.length) k,v.ownBlock=some k->¬xs[i].own k
theorem WayM.nil(w:World)(base:Nat):WayM w base (.slice none 0 0) [] []:=⟨World.ownsRow_nil w base 85 7,rfl,fun i h=>by simp at h,fun i j h=>by simp at h,fun i h=>by simp at h⟩
theorem WayM.kept{w w':World}{base:Nat}{v:Value}{xs:List SpV}{ns:List Sp}{S:Nat->Prop}(h:WayM w base v xs ns)(hk:Kp S w w')(hS:∀k,base<=k->k<w.heap.size->¬S k):WayM w' base v xs ns :=
 ⟨Ao h.row hk (fun k e=>hS k (World.ownsRow.lt h.row k e).1 (World.ownsRow.lt h.row k e).2),h.len,fun i h1 h2=>(h.is i h1 h2).kept hk (fun k e=>hS k ((h.is i h1 h2).nd.blocks k e).1 ((h.is i h1 h2).nd.blocks k e).2),h.dis,h.rowd⟩
theorem WayM.slice{w:World}{base:Nat}{v:Value}{xs:List SpV}{ns:List Sp}(h:WayM w base v xs ns):∃a c,v=.slice a ns.length c:=by
 rw[<-h.len];rcases h.row.2 with ⟨rfl,h0⟩|⟨g,cap,cur,rfl,_⟩
 ·exact⟨none,0,by rw[h0]⟩
 ·exact⟨_,_,rfl⟩
theorem Ig(t e ty:TypeId)(z:Value)(sz by_:Nat)(ht:prog.underlying t=some (.slice e))(hinfo:(prog.info? e).map (fun i=>(i.zero,i.size,i.bytes))=some (some z,sz,by_))(hzc:z.cells.size=sz)(hby:by_<=1000)
  (w:World) (base:Nat) (v:Value) (n:Nat) (cs:List Value) (x:Value) (m:Nat) (ds:List Value) (hO:w.ownsRow base e sz v n cs) (hs:Src prog sz t x m ds w) (hb:base<=w.heap.size) (hl:n+m<=1000000000) (h0:0<n+m) :
  ∃v' w',(Builtin.append_ #[t,t] ty #[v,x]).run prog w=.ok v' w'/\w'.ownsRow base e sz v' (n+m) (cs++ds)/\w.grownBy w' v.ownBlock/\(v'.ownBlock=v.ownBlock\/v'.ownBlock=some w.heap.size):=by
 obtain⟨i0,hi,hz0,hz1,hz2⟩:=info_parts hinfo;exact Ba (P:=prog) w base t t ty e i0 z sz by_ ht hi hz0 hzc hz1 hz2 v n cs hO x m ds hs h0 (by
   have:(n+m)*by_<=1000000000*1000:=Nat.mul_le_mul hl hby
   omega) (by unfold maxLen;omega) hb
theorem Lq{P:Program}(w:World)(t e:TypeId)(ht:P.underlying t=some (.slice e))(cs:List Value)(hc:∀u∈cs,u.oneCell'=true)(g:Nat)(hg:w.heap.size=g):Src P cs.length t (.slice (some ⟨g,0,none⟩) 1 1) 1 cs (w.alloc (.cells cs.toArray e)):=by
 subst hg;refine Src.ofSlice (e':=e) _ ht ⟨w.heap.size,0,none⟩ 1 1 cs (by simp) ?_ hc;intro j u hj;rw[Ar,Nat.zero_add];exact Am w cs.toArray e j u (by simpa using hj)
theorem PN:(prog.info? 85).map (fun i=>(i.zero,i.size,i.bytes))=some (some (.agg #[.int .i64 0,.bool false,.slice none 0 0,.slice none 0 0,.slice none 0 0,.int .i64 0,.int .i64 0]),7,104):=by kernel_rfl
theorem SpV.one(x:SpV):∀u∈x.cells,u.oneCell'=true:=by
 intro u hu;simp only[SpV.cells,List.mem_cons,List.not_mem_nil,or_false]at hu;rcases hu with rfl|rfl|rfl|rfl|rfl|rfl|rfl<;>rfl
theorem appSp(w:World)(base:Nat)(v:Value)(xs:List SpV)(x:SpV)(hO:w.ownsRow base 85 7 v xs.length (stcs xs))(hb:base<=w.heap.size)(hl:xs.length<=100000000) :
  ∃v' w',(Builtin.append_ #[78,78] 78 #[v,.slice (some ⟨w.heap.size,0,none⟩) 1 1]).run prog (w.alloc (.cells #[.int .i64 x.pg,.bool x.l,.slice x.a1 x.n1 x.c1,.slice x.a2 x.n2 x.c2,.slice x.a3 x.n3 x.c3,.int .i64 x.kid,.int .i64 x.was] 85))=.ok v' w' /\
   w'.ownsRow base 85 7 v' (xs++[x]).length (stcs (xs++[x]))/\Kp (fun k=>v.ownBlock=some k) w w'/\(v'.ownBlock=v.ownBlock\/∃k,v'.ownBlock=some k/\w.heap.size<=k)/\∃a c,v'=.slice a (xs++[x]).length c:=by
 have hKA:Kp none' w (w.alloc (.cells #[.int .i64 x.pg,.bool x.l,.slice x.a1 x.n1 x.c1,.slice x.a2 x.n2 x.c2,.slice x.a3 x.n3 x.c3,.int .i64 x.kid,.int .i64 x.was] 85)):=Kp.alloc _ _ _;have hs:=Lq (P:=prog) w 78 85 underlying78 x.cells x.one _ rfl;obtain⟨v',w',h1,h2,h3,h4⟩:=Ig 78 85 78 _ 7 104 underlying78 PN rfl (by omega) _ base v _ _ _ 1 _ (Ao hO hKA (fun _ _ h=>h)) hs (Nat.le_trans hb hKA.size) (by omega) (by omega)
 have h2':w'.ownsRow base 85 7 v' (xs++[x]).length (stcs (xs++[x])):=by
  rw[List.length_append,Jg];have e:stcs [x]=x.cells:=by simp[stcs]
  rw[e];exact h2
 refine⟨v',w',h1,h2',hKA.nThen (Kp.ofGrown h3 (fun k hk _=>hk)),?_,?_⟩
 ·rcases h4 with e|e
  ·exact .inl e
  ·exact .inr ⟨_,e,hKA.size⟩
 ·rcases h2'.2 with ⟨rfl,h0⟩|⟨g,cap,cur,rfl,_⟩
  ·simp at h0
  ·exact⟨_,_,rfl⟩
theorem WayM.app{w0 w:World}{b base:Nat}{v:Value}{xs:List SpV}{ns:List Sp}(h0:WayM w0 base v xs ns)(hb:b<base)(hbs:base<=w0.heap.size)(hk:Kp (only b) w0 w)(x:SpV)(s:Sp)(hx:SpIs w w0.heap.size x s)(hl:xs.length<=100000000) :
  ∃v' w',(Builtin.append_ #[78,78] 78 #[v,.slice (some ⟨w.heap.size,0,none⟩) 1 1]).run prog (w.alloc (.cells #[.int .i64 x.pg,.bool x.l,.slice x.a1 x.n1 x.c1,.slice x.a2 x.n2 x.c2,.slice x.a3 x.n3 x.c3,.int .i64 x.kid,.int .i64 x.was] 85))=.ok v' w' /\
   WayM w' base v' (xs++[x]) (ns++[s])/\Kp (fun k=>v.ownBlock=some k) w w'/\∃a c,v'=.slice a (ns++[s]).length c:=by
 have h:=h0.kept hk (fun k h1 _ e=>by unfold only at e;omega);obtain⟨v',w',h1,h2,h3,h4,a,c,h5⟩:=appSp w base v xs x h.row (Nat.le_trans hbs hk.size) hl;have hlt:∀i (hi:i<xs.length) k,xs[i].own k->k<w0.heap.size:=fun i hi k e=>((h0.is i hi (by rw[<-h0.len];exact hi)).nd.blocks k e).2;have hvl:∀k,v.ownBlock=some k->k<w0.heap.size:=fun k e=>(World.ownsRow.lt h0.row k e).2;have hxb:∀k,x.own k->w0.heap.size<=k/\k<w.heap.size:=fun k e=>hx.nd.blocks k e
 have key:∀i (hi:i<(xs++[x]).length),(∃h:i<xs.length,(xs++[x])[i]=xs[i])\/(i=xs.length/\(xs++[x])[i]=x):=by
  intro i hi;rw[List.length_append]at hi;rcases Nat.lt_or_ge i xs.length with h'|h'
  ·exact .inl ⟨h',by rw[List.getElem_append_left h']⟩
  ·have e:i=xs.length:=by simp at hi;omega
   exact .inr ⟨e,by subst e;simp⟩
 refine⟨v',w',h1,⟨h2,by simp[h0.len],fun i hi hi'=>?_,fun i j hi hj hij k e=>?_,fun i hi k e e'=>?_⟩,h3,⟨a,c,by rw[h5,List.length_append,List.length_append,h0.len];rfl⟩⟩
 ·rcases key i hi with ⟨h',e⟩|⟨e',e⟩
  ·have hn:i<ns.length:=by rw[<-h0.len];exact h'
   rw[e,List.getElem_append_left hn];exact(h.is i h' hn).kept h3 (fun k e1 e2=>h0.rowd i h' k e2 e1)
  ·have en:(ns++[s])[i]=s:=by subst e';simp[h0.len]
   rw[e,en];have:=hx.kept h3 (fun k e1 e2=>by have:=hvl k e2;have:=hxb k e1;omega);exact⟨this.nd.mono hbs,this.pg,this.kid,this.was⟩
 ·rcases key i hi with ⟨h1',e1⟩|⟨e1',e1⟩<;>rcases key j hj with ⟨h2',e2⟩|⟨e2',e2⟩
  ·rw[e1]at e;rw[e2];exact h0.dis i j h1' h2' hij k e
  ·rw[e1]at e;rw[e2];intro e3;have:=hlt i h1' k e;have:=hxb k e3;omega
  ·rw[e1]at e;rw[e2];intro e3;have:=hlt j h2' k e3;have:=hxb k e;omega
  ·omega
 ·rcases h4 with e4|⟨k',e4,e5⟩
  ·rw[e4]at e;rcases key i hi with ⟨h1',e1⟩|⟨e1',e1⟩
   ·rw[e1]at e';exact h0.rowd i h1' k e e'
   ·rw[e1]at e';have:=hvl k e;have:=hxb k e';omega
  ·rw[e4]at e;have e6:=Option.some.inj e;rcases key i hi with ⟨h1',e1⟩|⟨e1',e1⟩
   ·rw[e1]at e';have:=hlt i h1' k e';have:=hk.size;omega
   ·rw[e1]at e';have:=hxb k e';omega
structure Lo.ok (L:Lo):Prop where
 k:L.k<=1000
 pages:L.pages.length<=L.k
 pairs:L.pairs.length<=256*L.k
theorem Kd(S:Sw)(z:Int):(ndOf S z).ps.length<=255/\(ndOf S z).ks.length<=255/\(ndOf S z).kd.length<=256/\(∀d∈(ndOf S z).kd,1<=d/\d<=65535):=by
 unfold ndOf;split
 ·cases h:readN (S.read z).1 with
  | none=>simp[nd0]
  | some n =>
   obtain⟨hr,hs⟩:=Ay (Bk h).1;simp only[Option.getD_some];cases hl:n.leaf with
   | true =>
    obtain⟨h1,h2,h3,h4⟩:=AI hr hl;have hps:=BR hr hl;have:=FP n.ps (fun p hp=>(hps p hp).1.1);unfold Nd.size at hs;rw[hl,if_pos rfl]at hs;rw[h2,h3];exact⟨by omega,by simp,by simp,by simp⟩
   | false =>
    obtain⟨h1,h2,h3,h4⟩:=At hr hl;have hks:=Bj h4;have:=D7 n.ks (fun k hk=>(hks k hk).1);unfold Nd.size at hs;rw[hl]at hs;simp only[Bool.false_eq_true,if_false]at hs;exact⟨by rw[h2];simp,by omega,by omega,h1⟩
 ·simp[nd0]
theorem K9(S:Sw)(z:Int):(ndOf S z).ks.length<=(ndOf S z).kd.length/\(ndOf S z).kd.length<=(ndOf S z).ks.length+1:=by
 unfold ndOf;split
 ·cases h:readN (S.read z).1 with
  | none=>simp[nd0]
  | some n =>
   obtain⟨hr,hs⟩:=Ay (Bk h).1;simp only[Option.getD_some];cases hl:n.leaf with
   | true =>
    obtain⟨h1,h2,h3,h4⟩:=AI hr hl;rw[h2,h3];simp
   | false =>
    obtain⟨h1,h2,h3,h4⟩:=At hr hl;omega
 ·simp[nd0]
theorem Lm.app{W:World}{b r:Nat}{G:Nat->Prop}{M:Lo}(p:Pr)(h:Lm W b r G M)(hl:M.pairs.length<=1000000):∃aq nq cq a4 n4 c4 w4,W.cell? ⟨b,3,none⟩=some (.slice aq nq cq) /\
  (Builtin.append_ #[31,31] 31 #[.slice aq nq cq,.slice (some ⟨W.heap.size,0,none⟩) 1 1]).run prog (W.alloc (.cells #[.string p.k,.string p.v] 92))=.ok (.slice a4 n4 c4) w4 /\
  w4.cell? ⟨b,3,none⟩=some (.slice aq nq cq)/\w4.frozen? ⟨b,3,none⟩=false/\Lm (w4.setCell ⟨b,3,none⟩ (.slice a4 n4 c4)) b r (fun k=>G k\/W.heap.size<=k) { M with pairs:=M.pairs++[p] }/\Kp (fun k=>k=b\/G k) W (w4.setCell ⟨b,3,none⟩ (.slice a4 n4 c4)):=by
 obtain⟨pv,qv,hW,hO,hP,hne,hG1,hG2⟩:=h;obtain⟨aq,cq,rfl⟩:=hP.slice;have hKA:Kp none' W (W.alloc (.cells #[.string p.k,.string p.v] 92)):=Kp.alloc _ _ _;have hbl:=hW.lt;obtain⟨v3,w3,hq3,hO3,hg3,hv3⟩:=appP (W.alloc (.cells #[.string p.k,.string p.v] 92)) (b+1) (.slice aq M.pairs.length cq) (.slice (some ⟨W.heap.size,0,none⟩) 1 1) M.pairs [p] (hP.keptN hKA) (Ov W 31 92 underlying31 _ _ rfl rfl _ rfl) (Nat.le_trans hbl hKA.size) (by simp;omega)
 have hk3:Kp (fun k=>(Value.slice aq M.pairs.length cq).ownBlock=some k) W w3:=hKA.nThen (Kp.ofGrown hg3 (fun k hk _=>hk));have hW3:=hW.kept hk3 (fun e=>by have:=(hP.lt b e).1;omega);have hOO:=hO.kept hk3 (fun k hk e=>hne k hk e);have h3:W.heap.size<(W.alloc (.cells #[.string p.k,.string p.v] 92)).heap.size:=by simp
 have hne3:∀k,pv.ownBlock=some k->v3.ownBlock≠some k:=by
  intro k hk hk';rcases hv3 with e|e
  ·rw[e]at hk';exact hne k hk hk'
  ·rw[e]at hk';have h1:=(hO.lt k hk).2;have h2:=Option.some.inj hk';omega
 have hG3:∀k,v3.ownBlock=some k->G k\/W.heap.size<=k:=by
  intro k hk;rcases hv3 with e|e
  ·rw[e]at hk;exact .inl (hG2 k hk)
  ·rw[e]at hk;have h2:=Option.some.inj hk;exact .inr (by omega)
 obtain⟨a4,c4,rfl⟩:=hO3.slice;have hst:Kp (only b) w3 (w3.setCell ⟨b,3,none⟩ (.slice a4 (M.pairs++[p]).length c4)):=Kp.setCell _ _ _ _ rfl;have hW4:=hW3.setX 1 (.slice a4 (M.pairs++[p]).length c4);have hO4:=hO3.kept hst (fun k hk e=>by unfold only at e;have:=(hO3.lt k hk).1;omega);have hP4:=hOO.kept hst (fun k hk e=>by unfold only at e;have:=(hOO.lt k hk).1;omega);have d3:=hW.cx 1;have d3':=hW3.cx 1
 exact⟨_,_,_,_,_,_,_,d3,hq3,d3',hW3.fz 3,⟨_,_,hW4,hP4,hO4,hne3,fun k hk=>.inl (hG1 k hk),hG3⟩,(hk3.mono (fun k _ e=>.inr (hG2 k e))).then (hst.mono (fun k _ e=>.inl e))⟩
def OverC(b r c m:Nat)(V:Nat->Prop)(S:Sw)(fr up:ByteArray)(f:Nat)(lv:Nat):Prop:=∀(z:Int) (G:Nat->Prop) (L:Lo) (w:World),Wk w r V c m S->(∀k,V k->k<b)->Lm w b r G L->(∀k,G k->b<k/\k<w.heap.size)->L.ok ->
  Calls prog 70 #[.pointer (some ⟨b,0,none⟩),.int .i64 z,.int .i64 (lv:Int),.string fr,.string up] w fun e w'=>e=.returned (.int .i64 (overG S fr up f z (lv:Int) L).1)/\Lm w' b r (fun k=>G k\/w.heap.size<=k) (overG S fr up f z (lv:Int) L).2/\((overG S fr up f z (lv:Int) L).1=0->(overG S fr up f z (lv:Int) L).2.ok)/\Kp (fun k=>k=b\/G k) w w'
set_option maxRecDepth 100000 in
theorem Gs(b r c m:Nat)(V:Nat->Prop)(S:Sw)(fr up:ByteArray)(f:Nat)(lv:Nat)(hlv:lv<=41)(hrec:lv<=40->OverC b r c m V S fr up f (lv+1)):OverC b r c m V S fr up (f+1) lv:=by
 intro z G L w hWk hV hL hG hok;have hbl:=hL.lt;have hbG:¬G b\/True:=.inr trivial;obtain⟨R,HR⟩:∃q,Hid (overG S fr up (f+1) z (lv:Int) L=q):=⟨_,rfl⟩;rw[HR.out];obtain⟨pv,qv,hW,hO,hP,hne,hG1,hG2⟩:=hL;have hTW:=CE b r L.k z (lv:Int) _ _ V c m S w hW hWk (by have:=hok.k;omega);have hRd:Hid (overG S fr up (f+1) z (lv:Int) L=R):=HR;by_cases hE:trE S L.k z (lv:Int)=0
 ·obtain⟨hlv40,hk1000,hE0,hK1,hN1⟩:=Dx hE;obtain⟨n,Hn⟩:∃q,Hid (ndOf S z=q):=⟨_,rfl⟩;have hlen:=Kd S z;have hkid:=K9 S z;rw[Hn.out]at hlen hkid;obtain⟨ch,Hch⟩:∃q,Hid (An n.ks fr=q):=⟨_,rfl⟩;have hchl:ch<=n.kd.length:=by rw[<-Hch.out];have:=C6 n.ks fr;omega
  obtain⟨LM,HLM⟩:∃q,Hid (({ L with k:=L.k+1 }:Lo).meet z=q):=⟨_,rfl⟩;have HLM2:Hid (LM.pairs=L.pairs/\LM.k=L.k+1/\LM.pages.length<=L.pages.length+1):=by
   rw[<-HLM.out];unfold Lo.meet;split
   ·exact⟨rfl,rfl,Nat.le_succ _⟩
   ·exact⟨rfl,rfl,by show (L.pages++[z]).length<=_;simp⟩
  have HR2:Hid (overK (fun d M=>overG S fr up f d ((lv:Int)+1) M) n.ks up (n.kd.drop ch) ch { LM with pairs:=L.pairs++n.ps.filter (fun p=>inB p.k fr up) }=R):=by
   show _=_;rw[<-HR.out,overG,if_pos hE,Hn.out,Hch.out,HLM.out]
  have HRec:Hid (∀(d:Int) (G:Nat->Prop) (M:Lo) (w:World),Wk w r V c m S->Lm w b r G M->(∀k,G k->b<k/\k<w.heap.size)->M.ok ->
    Calls prog 70 #[.pointer (some ⟨b,0,none⟩),.int .i64 d,.int .i64 ((lv:Int)+1),.string fr,.string up] w fun e w'=>e=.returned (.int .i64 (overG S fr up f d ((lv:Int)+1) M).1)/\Lm w' b r (fun k=>G k\/w.heap.size<=k) (overG S fr up f d ((lv:Int)+1) M).2/\((overG S fr up f d ((lv:Int)+1) M).1=0->(overG S fr up f d ((lv:Int)+1) M).2.ok)/\Kp (fun k=>k=b\/G k) w w'):=by
   intro d G M w h1 h2 h3 h4;exact hrec (by omega) d G M w h1 hV h2 h3 h4
  unfold B2 at hTW;rw[hE,hN1,hK1,Hn.out]at hTW;clear hrec HR hRd hE0 hK1 hN1;go_enter func70,ntmps70;go_upto_region 2 with (first
   | (go_at_call 68;refine hTW.mono ?_;rintro e w1 ⟨l,a1,n1,c1,a2,n2,c2,a3,n3,c3,rfl,hN,hW1,hk1⟩)
   | fail)
  have nb:=Nb.new w1 l (.slice a1 n1 c1) (.slice a2 n2 c2) (.slice a3 n3 c3);have hKA:Kp none' w1 (w1.alloc (.cells #[.bool l,.slice a1 n1 c1,.slice a2 n2 c2,.slice a3 n3 c3] 35)):=Kp.alloc _ _ _;obtain⟨g,Hg⟩:∃q,Hid (w1.heap.size=q):=⟨_,rfl⟩;rw[Hg.out]at nb |-;generalize w1.alloc (.cells #[.bool l,.slice a1 n1 c1,.slice a2 n2 c2,.slice a3 n3 c3] 35)=w2 at *;have HGL:Hid (b<w.heap.size/\w.heap.size<=g/\g<w2.heap.size):=⟨hbl,by have:=hk1.size;have:=Hg.out;omega,nb.lt⟩
  replace hN:=hN.kept hKA (fun _ _ _ h=>h);have hL2:Lm w2 b r G { L with k:=L.k+1 }:=⟨pv,qv,hW1.kept hKA (fun h=>h),(hO.kept hk1 (fun k hk e=>by unfold only at e;have:=(hO.lt k hk).1;omega)).keptN hKA,(hP.kept hk1 (fun k hk e=>by unfold only at e;have:=(hP.lt k hk).1;omega)).keptN hKA,hne,hG1,hG2⟩;have HK2:Hid (Kp (fun k=>k=b\/G k) w w2):=(hk1.thenN hKA).mono (fun k _ e=>.inl e);have HWK:Hid (Wk w2 r V c m S):=(hWk.kept hk1 (fun k _ h e=>by unfold only at e;have:=hV k h;omega)).keptN hKA
  have HMT:=hide (IN b r z G _ w2 hL2 (by have:=hok.pages;have:=hok.k;show L.pages.length<=_;omega));rw[HLM.out]at HMT;clear hW1 hW hO hP hne hG1 hG2 hTW hk1 hKA hL2 hWk;have HGG:=hide hG;have HVV:=hide hV;have HOK:=hide hok;clear hG hV hok hbG;go_upto_region 5 with (first
   | (go_at_call 100;refine HMT.out.mono ?_;rintro e w3 ⟨rfl,hL3,hk3⟩)
   | fail)
  obtain⟨hi,Hhi⟩:∃q,Hid (w2.heap.size=q):=⟨_,rfl⟩;rw[Hhi.out]at HGL hL3;replace hk3:Kp (fun k=>k=b\/G k\/hi<=k) w2 w3:=hk3.mono (fun k _ e=>by rcases e with e|e;exact .inl e;exact .inr (.inl e));have HND:Hid (∀W:World,Kp (fun k=>k=b\/G k\/hi<=k) w2 W->Nb W g l (.slice a1 n1 c1) (.slice a2 n2 c2) (.slice a3 n3 c3)/\OwN W w.heap.size l (.slice a1 n1 c1) (.slice a2 n2 c2) (.slice a3 n3 c3) n/\Wk W r V c m S):=by
   intro W hk;have h1:=HGL.out;refine⟨nb.kept hk (fun e=>?_),hN.kept hk (fun k hb hlt e=>?_),HWK.out.kept hk (fun k hlt hv e=>?_)⟩
   ·rcases e with e|e|e
    ·omega
    ·have:=HGG.out g e;omega
    ·omega
   ·rcases e with e|e|e
    ·omega
    ·have:=HGG.out k e;omega
    ·have:=Hhi.out;omega
   ·have h2:=HVV.out k hv;rcases e with e|e|e
    ·omega
    ·have:=HGG.out k e;omega
    ·omega
  have hnv:=hN.nv;obtain⟨e1,e2,e3⟩:n1=n.ps.length/\n2=n.ks.length/\n3=n.kd.length:=by
   obtain⟨b1,o1,b2,o2,b3,o3,e⟩:=Hh hnv;simp only[Value.agg.injEq,Array.mk.injEq,List.cons.injEq,Value.slice.injEq]at e;exact⟨e.2.1.2.1,e.2.2.1.2.1,e.2.2.2.1.2.1⟩
  subst e1 e2 e3;obtain⟨lp,Hlp⟩:∃q,Hid (n.ps.length=q):=⟨_,rfl⟩;obtain⟨lk,Hlk⟩:∃q,Hid (n.ks.length=q):=⟨_,rfl⟩;obtain⟨ld,Hld⟩:∃q,Hid (n.kd.length=q):=⟨_,rfl⟩;rw[Hlp.out,Hlk.out,Hld.out]at HND;rw[Hlp.out,Hlk.out,Hld.out]at hlen;rw[Hlk.out,Hld.out]at hkid;rw[Hld.out]at hchl;clear hnv hN nb HMT HWK hE;have x1:=(HND.out w3 hk3).1.c1;have hlp:lp<=255:=hlen.1;go_upto_region 6 with fail;have HLL:Hid (LM.pairs=L.pairs):=HLM2.out.1
  go_loopw [14,35] (fun _ t wr=>∃j:Nat,j<=lp/\t=.int .i64 j/\Lm wr b r (fun k=>G k\/hi<=k) { LM with pairs:=L.pairs++(n.ps.take j).filter (fun p=>inB p.k fr up) }/\Kp (fun k=>k=b\/G k\/hi<=k) w2 wr) (fun _ t _=>lp - (intOf t).toNat)
  case atStart=>exact⟨0,Nat.zero_le _,rfl,by simp only[List.take_zero,List.filter_nil,List.append_nil];rw[<-HLL.out];exact hL3,hk3⟩
  case round =>
   clear x1 hL3 hk3;obtain⟨j,hj,rfl,hL,hK⟩:=hrel;by_cases hlt:j<lp
   ·have hlt':(j:Int)<(lp:Int):=by omega
    obtain⟨hnb,hno,hwk⟩:=HND.out wr hK;have hjl:j<n.ps.length:=by rw[Hlp.out];exact hlt
    have hpr:=hno.p.prs;obtain⟨a',c',e,hlc,hcm,ha⟩:=hpr;obtain⟨rfl,-,rfl⟩:a1=a'/\lp=n.ps.length/\c1=c':=by simpa using e
    obtain⟨bb,off,rfl,_,q0,q1⟩:=ha j hjl;have HT:Hid ((n.ps.take (j+1)).filter (fun p=>inB p.k fr up)=(n.ps.take j).filter (fun p=>inB p.k fr up)++(if inB n.ps[j].k fr up then [n.ps[j]] else [])):=by
     show _=_;rw[List.take_succ_eq_append_getElem hjl,List.filter_append];congr 1;cases h:inB n.ps[j].k fr up<;>simp[h]
    have HLE:Hid (({ LM with pairs:=L.pairs++(n.ps.take j).filter (fun p=>inB p.k fr up) }:Lo).pairs.length<=1000000):=by
     have h1:=HOK.out.pairs;have h2:=HOK.out.k;have h3:((n.ps.take j).filter (fun p=>inB p.k fr up)).length<=j:=Nat.le_trans (List.length_filter_le _ _) (by simp;omega);show (L.pairs++(n.ps.take j).filter (fun p=>inB p.k fr up)).length<=_;rw[List.length_append];omega
    generalize n.ps[j]=y at *;obtain⟨M,HM⟩:∃q:Lo,Hid (({ LM with pairs:=L.pairs++(n.ps.take j).filter (fun p=>inB p.k fr up) }:Lo)=q):=⟨_,hide rfl⟩;have HM2:Hid (({ LM with pairs:=L.pairs++(n.ps.take (j+1)).filter (fun p=>inB p.k fr up) }:Lo)={ M with pairs:=M.pairs++(if inB y.k fr up then [y] else []) }):=by
     show _=_;rw[HT.out,<-HM.out,<-List.append_assoc]
    rw[HM.out]at hL HLE;have hKP:Kp none' wr (wr.alloc (.cells #[.string y.k,.string y.v] 92)):=Kp.alloc _ _ _;have y0:=Am wr #[.string y.k,.string y.v] 92 0 (.string y.k) rfl;have y1:=Am wr #[.string y.k,.string y.v] 92 1 (.string y.v) rfl;replace hL:=hL.keptN hKP;replace hK:=hK.thenN hKP;clear ha e hno hwk hnb HT;go_upto_region 8 with fail;obtain⟨g14,Hg14⟩:∃q,Hid (wr.heap.size=q):=⟨_,rfl⟩;rw[Hg14.out]at y0 y1 |-;clear q0 q1 hKP
    generalize wr.alloc (.cells #[.string y.k,.string y.v] 92)=wq at *;have HWI:Hid (∀W:World,Calls prog 101 #[.string y.k,.string fr,.string up] W fun e w'=>e=.returned (.bool (inB y.k fr up))/\w'=W):=fun W=>CG y.k fr up W;cases hin:inB y.k fr up with
    | true =>
     rw[hin]at HWI HM2;obtain⟨aq,nq,cq,a4,n4,c4,w4,k3,hq,k4,f4,hL4,hK4⟩:=Lm.app y (show Lm wq.drew b r (fun k=>G k\/hi<=k) M from hL) HLE.out;have HEND:Hid (Lm (w4.setCell ⟨b,3,none⟩ (.slice a4 n4 c4)) b r (fun k=>G k\/hi<=k) { M with pairs:=M.pairs++[y] }/\Kp (fun k=>k=b\/G k\/hi<=k) w2 (w4.setCell ⟨b,3,none⟩ (.slice a4 n4 c4))):=by
      have hsz:hi<=wq.heap.size:=by have:=hK.size;have:=Hhi.out;omega
      refine⟨hL4.mono (fun k _ e=>by rcases e with e|e;exact e;exact .inr (Nat.le_trans hsz e)),(hK.thenN (Kp.drew none' wq)).then hK4⟩
     have y0d:wq.drew.cell? ⟨g14,0,none⟩=some (.string y.k):=y0;have y1d:wq.drew.cell? ⟨g14,1,none⟩=some (.string y.v):=y1;have ya0:∀o,(wq.alloc o).cell? ⟨g14,0,none⟩=some (.string y.k):=fun o=>(Kp.alloc none' wq o).cell y0 (fun h=>h);have ya1:∀o,(wq.alloc o).cell? ⟨g14,1,none⟩=some (.string y.v):=fun o=>(Kp.alloc none' wq o).cell y1 (fun h=>h);have k3':wq.cell? ⟨b,3,none⟩=some (.slice aq nq cq):=k3
     have ka3:∀o,(wq.alloc o).cell? ⟨b,3,none⟩=some (.slice aq nq cq):=fun o=>(Kp.alloc none' wq o).cell k3' (fun h=>h);clear hL hL4 hK4 hin HLE;go_upto_region 9 with (first
      | (go_at_call 101;refine(HWI.out _).mono ?_;rintro e w5 ⟨rfl,hw5⟩;obtain rfl:=hw5)
      | fail)
     go_region_law (first
      | (refine A9 (by rfl) (.tmp 48) (.tmp 50) 31 31 (by rfl) _ _ (by rfl) (by rfl) hq ?_)
      | fail)
     all_goals
      generalize w4.setCell ⟨b,3,none⟩ (.slice a4 n4 c4)=w6 at *;go_wp2;go_roundw
      case rel=>exact⟨j+1,by omega,by go_num,by rw[HM2.out];exact HEND.out.1,HEND.out.2⟩
      case measure=>simp[intOf];omega
    | false =>
     rw[hin]at HWI HM2;clear hin;go_wp2_with (first
      | (go_at_call 101;refine(HWI.out _).mono ?_;rintro e w5 ⟨rfl,hw5⟩;obtain rfl:=hw5)
      | fail)
     go_roundw
     case rel=>exact⟨j+1,by omega,by go_num,by rw[HM2.out];simpa using hL,hK⟩
     case measure=>simp[intOf];omega
   ·have hlt':¬(j:Int)<(lp:Int):=by omega
    rw[List.take_of_length_le (by rw[Hlp.out];omega)]at hL;obtain⟨M0,HM0⟩:∃q:Lo,Hid (({ LM with pairs:=L.pairs++n.ps.filter (fun p=>inB p.k fr up) }:Lo)=q):=⟨_,hide rfl⟩;rw[HM0.out]at hL HR2;have hok0:M0.ok:=by
     have h1:=HOK.out.pairs;have h2:=HOK.out.pages;have h3:=HLM2.out;have h4:(n.ps.filter (fun p=>inB p.k fr up)).length<=255:=Nat.le_trans (List.length_filter_le _ _) (by rw[Hlp.out];exact hlp);rw[<-HM0.out];refine⟨?_,?_,?_⟩
     ·show LM.k<=1000;omega
     ·show LM.pages.length<=LM.k;omega
     ·show (L.pairs++n.ps.filter (fun p=>inB p.k fr up)).length<=256*LM.k;rw[List.length_append];omega
    obtain⟨hnb,hno,hwk⟩:=HND.out wr hK;have HCH:Hid (Calls prog 69 #[.agg #[.bool l,.slice a1 lp c1,.slice a2 lk c2,.slice a3 ld c3],.string fr] wr fun e w'=>e=.returned (.int .i64 (ch:Int))/\Kp none' wr w'):=by
     have:=Gb _ n _ fr wr hno.nv;rw[Hch.out]at this;exact this
    have x0:=hnb.c0;have x1:=hnb.c1;have x2:=hnb.c2;have x3:=hnb.c3;clear hnb hno hwk HLM HLM2 HM0 HOK;go_upto_region 12 with (first
     | (go_at_call 69;refine HCH.out.mono ?_;rintro e w7 ⟨rfl,hk7⟩)
     | fail)
    replace hL:=hL.keptN hk7;replace hK:=hK.thenN hk7;clear x0 x1 x2 x3 hk7 HCH;go_loopw [15,16] (fun t _ wr=>∃(i:Nat) (M:Lo),i<=ld/\t=.int .i64 i/\Hid (overK (fun d M=>overG S fr up f d ((lv:Int)+1) M) n.ks up (n.kd.drop i) i M=R)/\M.ok/\Lm wr b r (fun k=>G k\/hi<=k) M/\Kp (fun k=>k=b\/G k\/hi<=k) w2 wr) (fun t _ _=>ld - (intOf t).toNat)
    case atStart=>exact⟨ch,M0,hchl,rfl,HR2,hok0,hL,hK⟩
    case round =>
     clear hL hK hok0 HR2;obtain⟨i,M,hi',rfl,HRR,hok,hL,hK⟩:=hrel;obtain⟨hnb,hno,hwk⟩:=HND.out _ hK;have x2:=hnb.c2;have x3:=hnb.c3;by_cases hlt:i<ld
     ·have hlt':(i:Int)<(ld:Int):=by omega
      have hik:i<n.kd.length:=by rw[Hld.out];exact hlt
      obtain⟨a',c',e,_,hcm3,hx⟩:=hno.d.sl;obtain⟨rfl,-,rfl⟩:a3=a'/\ld=n.kd.length/\c3=c':=by simpa using e
      obtain⟨b3,o3,rfl,_,hcd⟩:=hx i hik;clear hx e;have HRR2:=HRR;rw[List.drop_eq_getElem_cons hik]at HRR2;generalize n.kd[i]=d at *;obtain⟨P,HP⟩:∃q,Hid (overG S fr up f d ((lv:Int)+1) M=q):=⟨_,hide rfl⟩;have hLr:Lm wr b r (fun k=>(G k\/hi<=k)/\b<k/\k<wr.heap.size) M:=hL.mono (fun k hk e=>⟨e,by rcases e with e|e;exact(HGG.out k e).1;have:=HGL.out;omega,hk⟩);have HRC:=hide (HRec.out d _ M _ hwk hLr (fun k e=>e.2) hok);rw[HP.out]at HRC;have hszr:hi<=wr.heap.size:=by have:=hK.size;have:=Hhi.out;omega
      by_cases hcond:0<i/\inB (n.ks.getD (i - 1) ⟨#[]⟩) ⟨#[]⟩ up=false
      ·have HE:Hid (R=(0,M)):=by show _=_;rw[<-HRR2.out,overK,if_pos hcond]
       obtain⟨h0,hin⟩:=hcond;obtain⟨i1,Hi1⟩:∃q,Hid (i=q+1):=⟨i - 1,hide (by omega)⟩;have hil:i1<n.ks.length:=by have:=Hi1.out;rw[Hlk.out];omega
       obtain⟨a',c',e,_,hcm2,hx⟩:=hno.k.sl;obtain⟨rfl,-,rfl⟩:a2=a'/\lk=n.ks.length/\c2=c':=by simpa using e
       obtain⟨b2,o2,rfl,_,hck⟩:=hx i1 hil;have hkey:n.ks.getD (i - 1) ⟨#[]⟩=n.ks[i1]:=by rw[Hi1.out,Nat.add_sub_cancel,List.getD_eq_getElem?_getD,List.getElem?_eq_getElem hil];rfl
       rw[hkey]at hin;generalize n.ks[i1]=y at *;have hi0':(0:Int)<(i:Int):=by omega
       have hiw:(i:Int) - 1=(i1:Int):=by have:=Hi1.out;omega
       have hi1l:(i1:Int)<(lk:Int):=by have:=Hi1.out;omega
       have HWI:Hid (∀W:World,Calls prog 101 #[.string y,.string ⟨#[]⟩,.string up] W fun e w'=>e=.returned (.bool false)/\w'=W):=fun W=>by have:=CG y ⟨#[]⟩ up W;rw[hin]at this;exact this
       clear hx e hkey hin hnb hno hwk HRC hLr h0;go_wp2_with (first
        | (go_at_call 101;refine(HWI.out _).mono ?_;rintro e w5 ⟨rfl,hw5⟩;obtain rfl:=hw5)
        | fail)
       go_ret;rw[HE.out];have h1:=HGL.out;refine⟨rfl,hL.mono (fun k _ e=>by rcases e with e|e;exact .inl e;exact .inr (by omega)),fun _=>hok,HK2.out.trans hK (fun _ _ h=>h) (fun k hk e=>by rcases e with e|e|e;exact .inl e;exact .inr e;exact absurd hk (by omega))⟩
      ·have HR3:Hid ((if P.1=0 then overK (fun d M=>overG S fr up f d ((lv:Int)+1) M) n.ks up (n.kd.drop (i+1)) (i+1) P.2 else P)=R):=by
        show _=_;rw[<-HRR2.out,overK,if_neg hcond,HP.out]
       clear HRR HRR2;rcases Nat.eq_zero_or_pos i with h0|h0
       ·have hi0':¬(0:Int)<(i:Int):=by omega
        clear h0 hcond hnb hno hwk;go_upto_region 15 with fail;obtain⟨P1,P2⟩:=P;dsimp only at HR3 HRC;by_cases hP:P1=0
        ·subst hP;rw[if_pos rfl]at HR3;go_wp2_with (first
          | (go_at_call 70;refine HRC.out.mono ?_;rintro e w8 ⟨rfl,hL8,hok8,hk8⟩)
          | fail)
         go_roundw
         case rel=>exact⟨i+1,P2,by omega,by go_num,HR3,hok8 (by first|rfl|trivial),hL8.mono (fun k _ e=>by rcases e with e|e;exact e.1;exact .inr (Nat.le_trans hszr e)),hK.then (hk8.mono (fun k _ e=>by rcases e with e|e;exact .inl e;exact .inr e.1))⟩
         case measure=>simp[intOf];omega
        ·have hPb:(P1 != 0)=true:=by simp[hP]
         rw[if_neg hP]at HR3;clear hP;go_wp2_with (first
          | (go_at_call 70;refine HRC.out.mono ?_;rintro e w8 ⟨rfl,hL8,hok8,hk8⟩)
          | fail)
         go_ret;rw[<-HR3.out];have h1:=HGL.out;refine⟨rfl,hL8.mono (fun k _ e=>by rcases e with e|e;(rcases e.1 with e|e;exact .inl e;exact .inr (by omega));exact .inr (by omega)),hok8,(HK2.out.trans (hK.then (hk8.mono (fun k _ e=>by rcases e with e|e;exact .inl e;exact .inr e.1))) (fun _ _ h=>h) (fun k hk e=>by rcases e with e|e|e;exact .inl e;exact .inr e;exact absurd hk (by omega)))⟩
       ·have hin:inB (n.ks.getD (i - 1) ⟨#[]⟩) ⟨#[]⟩ up=true:=by
         cases h:inB (n.ks.getD (i - 1) ⟨#[]⟩) ⟨#[]⟩ up with
         | true=>rfl
         | false=>exact absurd ⟨h0,h⟩ hcond
        obtain⟨i1,Hi1⟩:∃q,Hid (i=q+1):=⟨i - 1,hide (by omega)⟩;have hil:i1<n.ks.length:=by have:=Hi1.out;rw[Hlk.out];omega
        obtain⟨a',c',e,_,hcm2,hx⟩:=hno.k.sl;obtain⟨rfl,-,rfl⟩:a2=a'/\lk=n.ks.length/\c2=c':=by simpa using e
        obtain⟨b2,o2,rfl,_,hck⟩:=hx i1 hil;have hkey:n.ks.getD (i - 1) ⟨#[]⟩=n.ks[i1]:=by rw[Hi1.out,Nat.add_sub_cancel,List.getD_eq_getElem?_getD,List.getElem?_eq_getElem hil];rfl
        rw[hkey]at hin;generalize n.ks[i1]=y at *;have hi0':(0:Int)<(i:Int):=by omega
        have hiw:(i:Int) - 1=(i1:Int):=by have:=Hi1.out;omega
        have hi1l:(i1:Int)<(lk:Int):=by have:=Hi1.out;omega
        have HWI:Hid (∀W:World,Calls prog 101 #[.string y,.string ⟨#[]⟩,.string up] W fun e w'=>e=.returned (.bool true)/\w'=W):=fun W=>by have:=CG y ⟨#[]⟩ up W;rw[hin]at this;exact this
        clear hx e hkey hin hnb hno hwk h0 hcond;go_upto_region 15 with (first
         | (go_at_call 101;refine(HWI.out _).mono ?_;rintro e w5 ⟨rfl,hw5⟩;obtain rfl:=hw5)
         | fail)
        obtain⟨P1,P2⟩:=P;dsimp only at HR3 HRC;by_cases hP:P1=0
        ·subst hP;rw[if_pos rfl]at HR3;go_wp2_with (first
          | (go_at_call 70;refine HRC.out.mono ?_;rintro e w8 ⟨rfl,hL8,hok8,hk8⟩)
          | fail)
         go_roundw
         case rel=>exact⟨i+1,P2,by omega,by go_num,HR3,hok8 (by first|rfl|trivial),hL8.mono (fun k _ e=>by rcases e with e|e;exact e.1;exact .inr (Nat.le_trans hszr e)),hK.then (hk8.mono (fun k _ e=>by rcases e with e|e;exact .inl e;exact .inr e.1))⟩
         case measure=>simp[intOf];omega
        ·have hPb:(P1 != 0)=true:=by simp[hP]
         rw[if_neg hP]at HR3;clear hP;go_wp2_with (first
          | (go_at_call 70;refine HRC.out.mono ?_;rintro e w8 ⟨rfl,hL8,hok8,hk8⟩)
          | fail)
         go_ret;rw[<-HR3.out];have h1:=HGL.out;refine⟨rfl,hL8.mono (fun k _ e=>by rcases e with e|e;(rcases e.1 with e|e;exact .inl e;exact .inr (by omega));exact .inr (by omega)),hok8,(HK2.out.trans (hK.then (hk8.mono (fun k _ e=>by rcases e with e|e;exact .inl e;exact .inr e.1))) (fun _ _ h=>h) (fun k hk e=>by rcases e with e|e|e;exact .inl e;exact .inr e;exact absurd hk (by omega)))⟩
     ·have hlt':¬(i:Int)<(ld:Int):=by omega
      have HE:Hid (R=(0,M)):=by show _=_;rw[<-HRR.out,List.drop_eq_nil_of_le (by rw[Hld.out];omega),overK]
      clear hnb hno hwk;go_wp2;go_ret;rw[HE.out];have h1:=HGL.out;refine⟨rfl,hL.mono (fun k _ e=>by rcases e with e|e;exact .inl e;exact .inr (by omega)),fun _=>hok,HK2.out.trans hK (fun _ _ h=>h) (fun k hk e=>by rcases e with e|e|e;exact .inl e;exact .inr e;exact absurd hk (by omega))⟩
 ·have hR1:R=(trE S L.k z (lv:Int),{ L with k:=trK S L.k z }):=by
   rw[<-HR.out,overG,if_neg hE]
  obtain⟨E,HE⟩:∃q,Hid (trE S L.k z (lv:Int)=q):=⟨_,rfl⟩;rw[HE.out]at hE hR1;have hEb:(E != 0)=true:=by simp[hE]
  subst hR1;clear hRd HR;go_enter func70,ntmps70;go_wp2_with (first
   | (go_at_call 68;refine hTW.mono ?_;rintro e w1 ⟨l,a1,n1,c1,a2,n2,c2,a3,n3,c3,rfl,hN,hW1,hk1⟩;rw[HE.out])
   | fail)
  go_ret;have hKA:Kp none' w1 (w1.alloc (.cells #[.bool l,.slice a1 n1 c1,.slice a2 n2 c2,.slice a3 n3 c3] 35)):=Kp.alloc _ _ _;refine⟨rfl,?_,fun h=>absurd h hE,(hk1.thenN hKA).mono (fun k _ e=>.inl e)⟩;exact⟨pv,qv,hW1.kept hKA (fun h=>h),(hO.kept hk1 (fun k hk e=>by unfold only at e;have:=(hO.lt k hk).1;omega)).keptN hKA,(hP.kept hk1 (fun k hk e=>by unfold only at e;have:=(hP.lt k hk).1;omega)).keptN hKA,hne,fun k hk=>.inl (hG1 k hk),fun k hk=>.inl (hG2 k hk)⟩
theorem DT(b r c m:Nat)(V:Nat->Prop)(S:Sw)(fr up:ByteArray):∀(f lv:Nat),lv+f=41->OverC b r c m V S fr up (f+1) lv
 | 0,lv,h=>Gs b r c m V S fr up 0 lv (by omega) (fun h'=>by omega)
 | f+1,lv,h=>Gs b r c m V S fr up (f+1) lv (by omega) (fun _=>DT b r c m V S fr up f (lv+1) (by omega))
def lo0:Lo:=⟨0,[],[],0⟩
theorem Lm.new(w:World)(r:Nat):Lm (w.alloc (.cells #[.pointer (some ⟨r,0,none⟩),.int .i64 0,.slice none 0 0,.slice none 0 0,.int .i64 0] 94)) w.heap.size r (fun _=>False) lo0 :=
 ⟨_,_,heap_alloc_new w _,Ow.nil _ _ _ _,OwP.nil _ _,fun k hk=>(by cases hk),fun k hk=>(by cases hk),fun k hk=>(by cases hk)⟩
theorem J8:lo0.ok:=⟨by simp[lo0],by simp[lo0],by simp[lo0]⟩
set_option maxRecDepth 100000 in
theorem N2(b r c m:Nat)(V:Nat->Prop)(S:Sw)(fr up:ByteArray)(root:Int)(w:World)(hWk:Wk w r V c m S)(hV:∀k,V k->k<b)(hL:Lm w b r (fun _=>False) lo0) :
  Calls prog 38 #[.pointer (some ⟨b,0,none⟩),.int .i64 root,.string fr,.string up] w fun e w'=>e=.returned (.int .i64 (over S root fr up).1)/\Lm w' b r (fun k=>w.heap.size<=k) (over S root fr up).2/\((over S root fr up).1=0->(over S root fr up).2.ok)/\Kp (only b) w w':=by
 by_cases h0:root=0
 ·have e1:over S root fr up=(0,lo0):=by unfold over;rw[if_pos h0];rfl
  rw[e1];subst h0;go_enter func38,ntmps38;go_wp2;go_ret;exact⟨rfl,hL.mono (fun _ _ h=>h.elim),fun _=>J8,Kp.refl _ _⟩
 ·have e1:over S root fr up=overG S fr up 41 root 1 lo0:=by unfold over;rw[if_neg h0];rfl
  rw[e1];have hb0:(root==0)=false:=by simp[h0]
  have hC:=DT b r c m V S fr up 40 1 (by omega) root (fun _=>False) lo0 w hWk hV hL (fun _ h=>h.elim) J8;obtain⟨R,HR⟩:∃q,Hid (overG S fr up 41 root 1 lo0=q):=⟨_,hide rfl⟩;have hC':=hC;rw[show (((1:Nat):Int))=1 from rfl,show 40+1=41 from rfl,HR.out]at hC';rw[HR.out];clear hC e1 h0;go_enter func38,ntmps38;go_wp2_with (first
   | (go_at_call 70;refine hC'.mono ?_;rintro e w1 ⟨rfl,hL1,hok,hk1⟩)
   | fail)
  go_ret;exact⟨rfl,hL1.mono (fun k _ e=>by rcases e with e|e;exact e.elim;exact e),hok,hk1.mono (fun k _ e=>by rcases e with e|e;exact e;exact e.elim)⟩
set_option maxRecDepth 100000 in
theorem On(r c m:Nat)(V:Nat->Prop)(S:Sw)(fr up:ByteArray)(root:Int)(w:World)(hWk:Wk w r V c m S)(hV:∀k,V k->k<w.heap.size) :
  Calls prog 14 #[.pointer (some ⟨r,0,none⟩),.int .i64 root,.string fr,.string up] w fun e w'=>∃v,e=.returned (.tuple #[v,.int .i64 (scanE S root fr up)])/\OwP w' w.heap.size v (scanL S root fr up)/\(scanL S root fr up).length<=256000/\Kp none' w w':=by
 have hKA:Kp none' w (w.alloc (.cells #[.pointer (some ⟨r,0,none⟩),.int .i64 0,.slice none 0 0,.slice none 0 0,.int .i64 0] 94)):=Kp.alloc _ _ _;have hL:=Lm.new w r;have hC:=N2 w.heap.size r c m V S fr up root _ (hWk.keptN hKA) hV hL;obtain⟨R,HR⟩:∃q,Hid (over S root fr up=q):=⟨_,hide rfl⟩;rw[HR.out]at hC;unfold scanL;unfold scanE;rw[HR.out];obtain⟨E,M⟩:=R;dsimp only at hC |-;clear hL;by_cases hE:E=0
 ·subst hE;rw[if_pos rfl];go_enter func14,ntmps14;go_upto_region 3 with (first
   | (go_at_call 38;refine hC.mono ?_;rintro e w1 ⟨rfl,hL1,hok,hk1⟩)
   | fail)
  obtain⟨pv,qv,hW,hO,hP,hne,_,_⟩:=hL1;have d3:=hW.cx 1;simp only[List.getElem?_cons_succ,List.getElem?_cons_zero]at d3;go_wp2;go_ret2;have hok:=hok (by first|rfl|trivial);refine⟨_,rfl,hP.mono (by omega),by have:=hok.pairs;have:=hok.k;omega,Ax hKA (Nat.le_refl _) hk1⟩
 ·rw[if_neg hE];have hEb:(E != 0)=true:=by simp[hE]
  clear hE;go_enter func14,ntmps14;go_wp2_with (first
   | (go_at_call 38;refine hC.mono ?_;rintro e w1 ⟨rfl,hL1,hok,hk1⟩)
   | fail)
  go_ret2;exact⟨_,rfl,OwP.nil _ _,by simp,Ax hKA (Nat.le_refl _) hk1⟩
theorem E6(S:Sw)(l:List Int)(j:Nat)(h:j<l.length):dropL S (l.take (j+1))=(dropL S (l.take j)).drop l[j]:=by
 unfold dropL;rw[List.take_succ_eq_append_getElem h,List.foldl_append];rfl
theorem Wk.m0{w:World}{r:Nat}{V:Nat->Prop}{c m:Nat}{S:Sw}(h:Wk w r V c m S)(hn:S.notes=[]):Wk w r V c 0 S:=by
 rcases h with h|⟨h1,gP,P,NL,h2,h3,h4,h5⟩
 ·exact .inl h
 ·have:NL=[]:=List.eq_nil_of_length_eq_zero (by rw[h3.g.n,hn];rfl);subst this;exact .inr ⟨h1,gP,P,[],h2,h3,Nat.zero_le _,by simp⟩
theorem Nv.keptO{w w':World}{x:SpV}{n:Nd}{S:Nat->Prop}(h:Nv w.heap.size w x.node n)(hk:Kp S w w')(hS:∀k,x.own k->¬S k):Nv w'.heap.size w' x.node n:=by
 obtain⟨⟨pv,kv,dv,e,hP,hK,hD⟩,hwf⟩:=h;have e':x.l=n.leaf/\.slice x.a1 x.n1 x.c1=pv/\.slice x.a2 x.n2 x.c2=kv/\.slice x.a3 x.n3 x.c3=dv:=by
  unfold SpV.node at e;simp only[Value.agg.injEq,Array.mk.injEq,List.cons.injEq,Value.bool.injEq]at e;exact⟨e.1,e.2.1,e.2.2.1,e.2.2.2.1⟩
 obtain⟨e1,rfl,rfl,rfl⟩:=e';have hsz:=hk.size;refine⟨⟨_,_,_,by unfold SpV.node;rw[e1],?_,?_,?_⟩,hwf⟩
 ·obtain⟨a,c,e2,h1,h2,h3⟩:=hP;refine⟨a,c,e2,h1,h2,fun i hi=>?_⟩;obtain⟨b,off,rfl,hb,c0,c1⟩:=h3 i hi;have hn:=hS b (.inl (by unfold SpV.p;rw[e2];rfl));exact⟨b,off,rfl,by omega,hk.cell c0 hn,hk.cell c1 hn⟩
 ·obtain⟨a,c,e2,h1,h2,h3⟩:=hK;refine⟨a,c,e2,h1,h2,fun i hi=>?_⟩;obtain⟨b,off,rfl,hb,c0⟩:=h3 i hi;have hn:=hS b (.inr (.inl (by unfold SpV.k;rw[e2];rfl)));exact⟨b,off,rfl,by omega,hk.cell c0 hn⟩
 ·obtain⟨a,c,e2,h1,h2,h3⟩:=hD;refine⟨a,c,e2,h1,h2,fun i hi=>?_⟩;obtain⟨b,off,rfl,hb,c0⟩:=h3 i hi;have hn:=hS b (.inr (.inr (by unfold SpV.d;rw[e2];rfl)));exact⟨b,off,rfl,by omega,hk.cell c0 hn⟩
structure WrIs (w:World) (o:Nat->Nat) (x:SpV) (p:Int × Nd):Prop where
 pg:x.pg=p.1
 nd:Nv w.heap.size w x.node p.2
 ow:∀k,x.own k->k<w.heap.size/\o k=0
structure Cm (w:World) (b r:Nat) (o:Nat->Nat) (C:Cg) (wv tv sv:Value) (xs:List SpV):Prop where
 hd:Wl w b r C.k [wv,tv,sv] 80
 ob:o b=1
 ws:w.ownsRow 0 85 7 wv xs.length (stcs xs)
 wo:∀k,wv.ownBlock=some k->o k=2
 wl:xs.length=C.ws.length
 wi:∀i (h:i<xs.length) (h':i<C.ws.length),WrIs w o xs[i] C.ws[i]
 tk:Ow (Value.int .i64) 3 w 0 tv C.tk
 to':∀k,tv.ownBlock=some k->o k=3
 sp:Ow (Value.int .i64) 3 w 0 sv C.sp
 so:∀k,sv.ownBlock=some k->o k=4
theorem WrIs.kept{w w':World}{o o':Nat->Nat}{x:SpV}{p:Int × Nd}{S:Nat->Prop}(h:WrIs w o x p)(hk:Kp S w w')(hS:∀k,k<w.heap.size->o k=0->¬S k)(ho:∀k,k<w.heap.size->o' k=o k):WrIs w' o' x p :=
 ⟨h.pg,h.nd.keptO hk (fun k e=>hS k (h.ow k e).1 (h.ow k e).2),fun k e=>⟨Qd (h.ow k e).1 hk.size,by rw[ho k (h.ow k e).1];exact(h.ow k e).2⟩⟩
theorem Cm.kept{w w':World}{b r:Nat}{o o':Nat->Nat}{C:Cg}{wv tv sv:Value}{xs:List SpV}{S:Nat->Prop}(h:Cm w b r o C wv tv sv xs)(hk:Kp S w w')(hS:∀k,k<w.heap.size->o k<=4->¬S k)(ho:∀k,k<w.heap.size->o' k=o k):Cm w' b r o' C wv tv sv xs:=by
 have hb:=h.hd.lt;have h1:=fun k (e:wv.ownBlock=some k)=>(World.ownsRow.lt h.ws k e).2;have h2:=fun k (e:tv.ownBlock=some k)=>(h.tk.lt k e).2;have h3:=fun k (e:sv.ownBlock=some k)=>(h.sp.lt k e).2;exact⟨h.hd.kept hk (hS b hb (by rw[h.ob];omega)),by rw[ho b hb];exact h.ob,Ao h.ws hk (fun k e=>hS k (h1 k e) (by rw[h.wo k e];omega)),fun k e=>by rw[ho k (h1 k e)];exact h.wo k e,h.wl,fun i a c=>(h.wi i a c).kept hk (fun k hk' e=>hS k hk' (by omega)) ho,
  h.tk.kept hk (fun k e=>hS k (h2 k e) (by rw[h.to' k e];omega)),fun k e=>by rw[ho k (h2 k e)];exact h.to' k e,h.sp.kept hk (fun k e=>hS k (h3 k e) (by rw[h.so k e];omega)),fun k e=>by rw[ho k (h3 k e)];exact h.so k e⟩
def lab(o:Nat->Nat)(n l:Nat):Nat->Nat:=fun k=>if k<n then o k else l
theorem Ad{o:Nat->Nat}{n l k:Nat}(h:k<n):lab o n l k=o k:=if_pos h
theorem Ap{o:Nat->Nat}{n l k:Nat}(h:n<=k):lab o n l k=l:=if_neg (by omega)
theorem Ow.shrink{α:Type}{f:α->Value}{e:TypeId}{w:World}{base n c:Nat}{a:Option Addr}{l:List α}(h:Ow f e w base (.slice a n c) l)(m:Nat)(hm:m<=l.length)(hl:0<l.length):Ow f e w base (.slice a m c) (l.take m):=by
 rcases h.2 with ⟨h1,h0⟩|⟨g,cap,cur,h1,hb,hg,h2,h3,h4,h5⟩
 ·cases h1;omega
 ·cases h1
  have e1:(l.take m).length=m:=by rw[List.length_take];omega
  refine⟨by simp,.inr ⟨g,c,cur,by rw[e1],hb,hg,by rw[e1];omega,h3,h4,?_⟩⟩;rw[e1,Nat.mul_one];rw[Nat.mul_one]at h5;rw[List.map_take,<-h5,List.take_take,Nat.min_eq_left hm]
end Go.Proofs.YtgcgacjhkhjhmaaGreatDoor
