/- Part of the proof: contracts over the turned program. -/
import Derived.Test.YtjojffepakclcaaGreatDoorX28
import Derived.Test.YtjojffepakclcaaGreatDoorX23
set_option linter.unusedVariables false
set_option maxHeartbeats 4000000
open Go.Proofs.Tryz
namespace Go.Proofs.YtjojffepakclcaaGreatDoor
open Go Go.RowKit
theorem Dn(b r c m:Nat)(V:Nat->Prop)(S:Sw):∀(f lv:Nat),lv+f=41->Jm b r c m V S (f+1) lv
 | 0,lv,h=>Fk b r c m V S 0 lv (by omega) (fun h'=>by omega)
 | f+1,lv,h=>Fk b r c m V S (f+1) lv (by omega) (fun _=>Dn b r c m V S f (lv+1) (by omega))
set_option maxRecDepth 100000 in
theorem LC(b r c m:Nat)(V:Nat->Prop)(S:Sw)(root:Int)(w:World)(hWk:Wk w r V c m S)(hV:∀k,V k->k<b)(hL:Lm w b r (fun _=>False) lo0) :
  Calls prog 37 #[.pointer (some ⟨b,0,none⟩),.int .i64 root] w fun e w'=>e=.returned (.bool (sound S root).1)/\Lm w' b r (fun k=>w.heap.size<=k) (sound S root).2/\Kp (only b) w w':=by
 by_cases h0:root=0
 ·have e1:sound S root=(true,lo0):=by unfold sound;rw[if_pos h0];rfl
  rw[e1];subst h0;go_enter func37,ntmps37;go_wp2;go_ret;exact⟨rfl,hL.mono (fun _ _ h=>h.elim),Kp.refl _ _⟩
 ·have e1:sound S root=AI S 41 root 1 ⟨#[]⟩ ⟨#[]⟩ lo0:=by unfold sound;rw[if_neg h0];rfl
  rw[e1];have hb0:(root==0)=false:=by simp[h0]
  have hC:=Dn b r c m V S 40 1 (by omega) root ⟨#[]⟩ ⟨#[]⟩ (fun _=>False) lo0 w hWk hV hL (fun _ h=>h.elim) Jq;obtain⟨R,HR⟩:∃q,Hid (AI S 41 root 1 ⟨#[]⟩ ⟨#[]⟩ lo0=q):=⟨_,hide rfl⟩;rw[show (((1:Nat):Int))=1 from rfl,show 40+1=41 from rfl,HR.out]at hC;rw[HR.out];clear e1 h0;go_enter func37,ntmps37;go_wp2_with (first
   | (go_at_call 56;refine hC.mono ?_;rintro e w1 ⟨rfl,hL1,hok,hk1⟩)
   | fail)
  go_ret;exact⟨rfl,hL1.mono (fun k _ e=>by rcases e with e|e;exact e.elim;exact e),hk1.mono (fun k _ e=>by rcases e with e|e;exact e;exact e.elim)⟩
set_option maxRecDepth 100000 in
theorem FE(r c m:Nat)(V:Nat->Prop)(S:Sw)(root:Int)(w:World)(hWk:Wk w r V c m S)(hV:∀k,V k->k<w.heap.size) :
  Calls prog 19 #[.pointer (some ⟨r,0,none⟩),.int .i64 root] w fun e w'=>e=.returned (.tuple #[.int .i64 (CC S root).1,.int .i64 (CC S root).2.1,.bool (CC S root).2.2])/\Kp none' w w':=by
 have hKA:Kp none' w (w.alloc (.cells #[.pointer (some ⟨r,0,none⟩),.int .i64 0,.slice none 0 0,.slice none 0 0,.int .i64 0] 81)):=Kp.alloc _ _ _;have hL:=Lm.new w r;have hC:=LC w.heap.size r c m V S root _ (hWk.keptN hKA) hV hL;obtain⟨R,HR⟩:∃q,Hid (sound S root=q):=⟨_,hide rfl⟩;rw[HR.out]at hC;unfold CC;rw[HR.out];obtain⟨E,M⟩:=R;dsimp only at hC |-;clear hL;cases E with
 | true =>
  rw[if_pos rfl];go_enter func19,ntmps19;go_upto_region 4 with (first
   | (go_at_call 37;refine hC.mono ?_;rintro e w1 ⟨rfl,hL1,hk1⟩)
   | fail)
  obtain⟨pv,qv,hW,hO,hP,hne,_,_⟩:=hL1;obtain⟨pa,pc,rfl,_⟩:=hO.open;have d2:=hW.cx 0;have d4:=hW.cx 2;simp only[List.getElem?_cons_succ,List.getElem?_cons_zero,Nat.zero_add]at d2 d4;have HKF:Hid (Kp none' w w1):=Av hKA (Nat.le_refl _) hk1;go_quiet (fail);go_wp2;go_ret3;exact⟨rfl,HKF.out.thenN (Kp.ofGrown (IM _ _ none) (fun k hk _=>by cases hk))⟩
 | false =>
  rw[if_neg (by simp)];go_enter func19,ntmps19;go_wp2_with (first
   | (go_at_call 37;refine hC.mono ?_;rintro e w1 ⟨rfl,hL1,hk1⟩)
   | fail)
  go_ret3;exact⟨rfl,Av hKA (Nat.le_refl _) hk1⟩
set_option maxRecDepth 100000 in
theorem L5(b:Nat)(v:Value)(l:List Pr)(fr up:ByteArray)(w:World)(h:Pz w b v l)(hf:fr.size<=maxLen)(hu:up.size<=maxLen)(hl:l.length<=100000) :
  Calls prog 21 #[.pointer (some ⟨b,2,none⟩),.string fr,.string up] w fun e w'=>∃a n c,e=.returned (.slice a n c)/\OwP w' w.heap.size (.slice a n c) (l.filter (fun p=>inB p.k fr up))/\Kp none' w w':=by
 obtain⟨hc,hP,hasc,hsz⟩:=h;obtain⟨a,c,rfl,hlc,hcm,ha⟩:=hP;unfold maxLen at hcm;have HA:Hid (∀i (h:i<l.length),∃b off,a=some ⟨b,off,none⟩/\b<w.heap.size/\w.cell? ⟨b,off+i*2,none⟩=some (.string l[i].k)/\w.cell? ⟨b,off+i*2+1,none⟩=some (.string l[i].v)):=ha;have HSZ:=hide hsz;clear ha hasc hsz;have e3:=BJ up;obtain⟨f,Hf⟩:∃f,Hid ((fun p:Pr=>inB p.k fr up)=f):=⟨_,rfl⟩;go_enter func21,ntmps21;go_wp2
 go_loopw [7,8] (fun t u wr=>∃(j:Nat) (a1:Option Addr) (n1 c1:Nat),j<=l.length/\u=.int .i64 j/\t=.slice a1 n1 c1/\Hid (OwP wr w.heap.size (.slice a1 n1 c1) ((l.take j).filter f))/\Kp none' w wr) (fun _ u _=>l.length - (intOf u).toNat)
 case atStart=>exact⟨0,none,0,0,Nat.zero_le _,rfl,rfl,hide (by rw[List.take_zero];exact OwP.nil _ _),Kp.refl _ _⟩
 case round =>
  obtain⟨j,a1,n1,c1,hj,rfl,rfl,HO,hK⟩:=hrel;have hc1:=hK.cell hc (fun h=>h);by_cases hlt:j<l.length
  ·obtain⟨b',o,rfl,_,p1',p2'⟩:=HA.out j hlt;have p1:=hK.cell p1' (fun h=>h);have p2:=hK.cell p2' (fun h=>h);clear p1' p2';have hlt':(j:Int)<(l.length:Int):=by omega
   have hKr:Kp none' wr wr:=Kp.refl _ _;have hm:=(HSZ.out _ (List.getElem_mem hlt)).1;have HT:Hid ((l.take (j+1)).filter f=(l.take j).filter f++(if f l[j] then [l[j]] else [])):=by
    show _=_;rw[List.take_succ_eq_append_getElem hlt,List.filter_append];congr 1;cases hh:f l[j] with
    | false=>simp[hh]
    | true=>simp[hh]
   have HF:Hid (f l[j]=(!lessB l[j].k fr&&(up.size==0||lessB l[j].k up))):=by rw[<-Hf.out];exact hide rfl
   have HLN:Hid (((l.take j).filter f).length<=100000):=Nat.le_trans (List.length_filter_le _ _) (by rw[List.length_take];omega);generalize l[j]=y at *;cases h1:lessB y.k fr with
   | true =>
    have HR:Hid (f y=false):=by show _=_;rw[HF.out,h1];rfl
    go_wp2_with (first|(go_at_call 40;refine(BB _ _ _ hm (by first|exact hf|exact hu)).mono ?_;rintro e w5 ⟨rfl,hK5⟩;rw[h1];replace hc1:=hK5.cell hc1 (fun h=>h);replace p1:=hK5.cell p1 (fun h=>h);replace p2:=hK5.cell p2 (fun h=>h);replace hKr:=hKr.thenN hK5)|fail);go_roundw
    case rel=>exact⟨j+1,a1,n1,c1,by omega,by go_num,rfl,hide (by rw[HT.out,HR.out];simpa using HO.out.keptN hKr),hK.thenN hKr⟩
    case measure=>simp[intOf];omega
   | false =>
    cases h3:(up.size==0) with
    | true =>
     have HR:Hid (f y=true):=by show _=_;rw[HF.out,h1,h3];rfl
     rw[h3]at e3;go_upto_region 6 with (first
      | (go_at_call 40;refine(BB _ _ _ hm (by first|exact hf|exact hu)).mono ?_;rintro e w5 ⟨rfl,hK5⟩;rw[h1];replace hc1:=hK5.cell hc1 (fun h=>h);replace p1:=hK5.cell p1 (fun h=>h);replace p2:=hK5.cell p2 (fun h=>h);replace hKr:=hKr.thenN hK5)
      | fail)
     have hKw:Kp none' wr w5:=hKr;have hKA:Kp none' w5 (w5.alloc (.cells #[.string y.k,.string y.v] 59)):=Kp.alloc _ _ _;have hO7:=HO.out.keptN hKw
     obtain⟨v3,w3,hq3,hO3,hg3,hv3⟩:=appP (w5.alloc (.cells #[.string y.k,.string y.v] 59)) w.heap.size (.slice a1 n1 c1) (.slice (some ⟨w5.heap.size,0,none⟩) 1 1) _ [y] (hO7.keptN hKA) (FJ w5 33 59 underlying33 _ _ rfl rfl _ rfl) (Nat.le_trans (Nat.le_trans hK.size hKw.size) hKA.size) (by have:=HLN.out;simp only[List.length_cons,List.length_nil];omega)
     have hK3:Kp none' w w3:=((hK.thenN hKw).thenN hKA).trans (Kp.ofGrown hg3 (S:=fun k=>(Value.slice a1 n1 c1).ownBlock=some k) (fun k hk _=>hk)) (fun _ _ h=>h) (fun k hk he=>absurd hk (by have:=(hO7.lt k he).1;omega));obtain⟨a3,c3,e4,_⟩:=hO3.prs;obtain⟨n3,Hn3⟩:∃m,Hid (((l.take j).filter f++[y]).length=m):=⟨_,rfl⟩;have HO3:=hide hO3;rw[Hn3.out]at e4;subst e4;clear hO7 hO3 hg3 hv3;go_wp2_with (first|(at_builtin;refine Ak rfl (.tmp 45) (.tmp 53) 33 33 rfl _ _ rfl rfl hq3 ?_)|fail)
     go_roundw
     case rel=>exact⟨j+1,a3,n3,c3,by omega,by go_num,rfl,hide (by rw[HT.out,HR.out];exact HO3.out),hK3⟩
     case measure=>simp[intOf];omega
    | false =>
     rw[h3]at e3;cases h2:lessB y.k up with
     | true =>
      have HR:Hid (f y=true):=by show _=_;rw[HF.out,h1,h3,h2];rfl
      go_upto_region 6 with (first
       | (go_at_call 40;refine(BB _ _ _ hm (by first|exact hf|exact hu)).mono ?_;rintro e w5 ⟨rfl,hK5⟩;(first|rw[h1]|rw[h2]);replace hc1:=hK5.cell hc1 (fun h=>h);replace p1:=hK5.cell p1 (fun h=>h);replace p2:=hK5.cell p2 (fun h=>h);replace hKr:=hKr.thenN hK5)
       | fail)
      have hKw:Kp none' wr w5:=hKr;have hKA:Kp none' w5 (w5.alloc (.cells #[.string y.k,.string y.v] 59)):=Kp.alloc _ _ _;have hO7:=HO.out.keptN hKw
      obtain⟨v3,w3,hq3,hO3,hg3,hv3⟩:=appP (w5.alloc (.cells #[.string y.k,.string y.v] 59)) w.heap.size (.slice a1 n1 c1) (.slice (some ⟨w5.heap.size,0,none⟩) 1 1) _ [y] (hO7.keptN hKA) (FJ w5 33 59 underlying33 _ _ rfl rfl _ rfl) (Nat.le_trans (Nat.le_trans hK.size hKw.size) hKA.size) (by have:=HLN.out;simp only[List.length_cons,List.length_nil];omega)
      have hK3:Kp none' w w3:=((hK.thenN hKw).thenN hKA).trans (Kp.ofGrown hg3 (S:=fun k=>(Value.slice a1 n1 c1).ownBlock=some k) (fun k hk _=>hk)) (fun _ _ h=>h) (fun k hk he=>absurd hk (by have:=(hO7.lt k he).1;omega));obtain⟨a3,c3,e4,_⟩:=hO3.prs;obtain⟨n3,Hn3⟩:∃m,Hid (((l.take j).filter f++[y]).length=m):=⟨_,rfl⟩;have HO3:=hide hO3;rw[Hn3.out]at e4;subst e4;clear hO7 hO3 hg3 hv3;go_wp2_with (first|(at_builtin;refine Ak rfl (.tmp 45) (.tmp 53) 33 33 rfl _ _ rfl rfl hq3 ?_)|fail)
      go_roundw
      case rel=>exact⟨j+1,a3,n3,c3,by omega,by go_num,rfl,hide (by rw[HT.out,HR.out];exact HO3.out),hK3⟩
      case measure=>simp[intOf];omega
     | false =>
      have HR:Hid (f y=false):=by show _=_;rw[HF.out,h1,h3,h2];rfl
      go_wp2_with (first|(go_at_call 40;refine(BB _ _ _ hm (by first|exact hf|exact hu)).mono ?_;rintro e w5 ⟨rfl,hK5⟩;(first|rw[h1]|rw[h2]);replace hc1:=hK5.cell hc1 (fun h=>h);replace p1:=hK5.cell p1 (fun h=>h);replace p2:=hK5.cell p2 (fun h=>h);replace hKr:=hKr.thenN hK5)|fail)
      go_roundw
      case rel=>exact⟨j+1,a1,n1,c1,by omega,by go_num,rfl,hide (by rw[HT.out,HR.out];simpa using HO.out.keptN hKr),hK.thenN hKr⟩
      case measure=>simp[intOf];omega
  ·have hlt':¬(j:Int)<(l.length:Int):=by omega
   have hje:j=l.length:=by omega
   subst hje;rw[List.take_length]at HO;go_wp2;go_ret;refine⟨a1,n1,c1,rfl,?_,hK⟩;have:=HO.out;rw[<-Hf.out]at this;exact this
end Go.Proofs.YtjojffepakclcaaGreatDoor
