/- Part of the proof: contracts over the turned program. -/
import Derived.Test.YtgcgacjhkhjhmaaGreatDoorX27
set_option linter.unusedVariables false
set_option maxHeartbeats 4000000
open Go.Proofs.Tryz
namespace Go.Proofs.YtgcgacjhkhjhmaaGreatDoor
open Go Go.RowKit
theorem Df(b r c m:Nat)(V:Nat->Prop)(S:Sw):∀(f lv:Nat),lv+f=41->Jz b r c m V S (f+1) lv
 | 0,lv,h=>FM b r c m V S 0 lv (by omega) (fun h'=>by omega)
 | f+1,lv,h=>FM b r c m V S (f+1) lv (by omega) (fun _=>Df b r c m V S f (lv+1) (by omega))
set_option maxRecDepth 100000 in
theorem My(b r c m:Nat)(V:Nat->Prop)(S:Sw)(root:Int)(w:World)(hWk:Wk w r V c m S)(hV:∀k,V k->k<b)(hL:Lm w b r (fun _=>False) lo0) :
  Calls prog 39 #[.pointer (some ⟨b,0,none⟩),.int .i64 root] w fun e w'=>e=.returned (.bool (sound S root).1)/\Lm w' b r (fun k=>w.heap.size<=k) (sound S root).2/\Kp (only b) w w':=by
 by_cases h0:root=0
 ·have e1:sound S root=(true,lo0):=by unfold sound;rw[if_pos h0];rfl
  rw[e1];subst h0;go_enter func39,ntmps39;go_wp2;go_ret;exact⟨rfl,hL.mono (fun _ _ h=>h.elim),Kp.refl _ _⟩
 ·have e1:sound S root=Aq S 41 root 1 ⟨#[]⟩ ⟨#[]⟩ lo0:=by unfold sound;rw[if_neg h0];rfl
  rw[e1];have hb0:(root==0)=false:=by simp[h0]
  have hC:=Df b r c m V S 40 1 (by omega) root ⟨#[]⟩ ⟨#[]⟩ (fun _=>False) lo0 w hWk hV hL (fun _ h=>h.elim) J8;obtain⟨R,HR⟩:∃q,Hid (Aq S 41 root 1 ⟨#[]⟩ ⟨#[]⟩ lo0=q):=⟨_,hide rfl⟩;rw[show (((1:Nat):Int))=1 from rfl,show 40+1=41 from rfl,HR.out]at hC;rw[HR.out];clear e1 h0;go_enter func39,ntmps39;go_wp2_with (first
   | (go_at_call 71;refine hC.mono ?_;rintro e w1 ⟨rfl,hL1,hok,hk1⟩)
   | fail)
  go_ret;exact⟨rfl,hL1.mono (fun k _ e=>by rcases e with e|e;exact e.elim;exact e),hk1.mono (fun k _ e=>by rcases e with e|e;exact e;exact e.elim)⟩
set_option maxRecDepth 100000 in
theorem FL(r c m:Nat)(V:Nat->Prop)(S:Sw)(root:Int)(w:World)(hWk:Wk w r V c m S)(hV:∀k,V k->k<w.heap.size) :
  Calls prog 15 #[.pointer (some ⟨r,0,none⟩),.int .i64 root] w fun e w'=>e=.returned (.tuple #[.int .i64 (AP S root).1,.int .i64 (AP S root).2.1,.bool (AP S root).2.2])/\Kp none' w w':=by
 have hKA:Kp none' w (w.alloc (.cells #[.pointer (some ⟨r,0,none⟩),.int .i64 0,.slice none 0 0,.slice none 0 0,.int .i64 0] 94)):=Kp.alloc _ _ _;have hL:=Lm.new w r;have hC:=My w.heap.size r c m V S root _ (hWk.keptN hKA) hV hL;obtain⟨R,HR⟩:∃q,Hid (sound S root=q):=⟨_,hide rfl⟩;rw[HR.out]at hC;unfold AP;rw[HR.out];obtain⟨E,M⟩:=R;dsimp only at hC |-;clear hL;cases E with
 | true =>
  rw[if_pos rfl];go_enter func15,ntmps15;go_upto_region 4 with (first
   | (go_at_call 39;refine hC.mono ?_;rintro e w1 ⟨rfl,hL1,hk1⟩)
   | fail)
  obtain⟨pv,qv,hW,hO,hP,hne,_,_⟩:=hL1;obtain⟨pa,pc,rfl,_⟩:=hO.open;have d2:=hW.cx 0;have d4:=hW.cx 2;simp only[List.getElem?_cons_succ,List.getElem?_cons_zero,Nat.zero_add]at d2 d4;have HKF:Hid (Kp none' w w1):=Ax hKA (Nat.le_refl _) hk1;go_quiet (fail);go_wp2;go_ret3;exact⟨rfl,HKF.out.thenN (Kp.ofGrown (ID _ _ none) (fun k hk _=>by cases hk))⟩
 | false =>
  rw[if_neg (by simp)];go_enter func15,ntmps15;go_wp2_with (first
   | (go_at_call 39;refine hC.mono ?_;rintro e w1 ⟨rfl,hL1,hk1⟩)
   | fail)
  go_ret3;exact⟨rfl,Ax hKA (Nat.le_refl _) hk1⟩
end Go.Proofs.YtgcgacjhkhjhmaaGreatDoor
