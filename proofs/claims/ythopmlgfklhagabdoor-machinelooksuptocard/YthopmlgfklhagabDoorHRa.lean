/- The list of machine's deeds, and what each of them makes of a step. Conditions: those that each theorem states. -/
import Derived.Test.YthopmlgfklhagabDoorHJe
import Derived.Test.YthopmlgfklhagabDoorHDg
import Derived.Test.YthopmlgfklhagabDoorHJl
import Derived.Test.YthopmlgfklhagabDoorHDl
import Derived.Test.YthopmlgfklhagabDoorHJn
import Derived.Test.YthopmlgfklhagabDoorHJs
import Derived.Test.YthopmlgfklhagabDoorHJp
import Derived.Test.YthopmlgfklhagabDoorHJc
import Derived.Test.YthopmlgfklhagabDoorHDt
import Derived.Shelf.Abstract
namespace Go.Proofs.YthopmlgfklhagabDoor
open Go.RowKit
set_option linter.unusedVariables false

theorem nat_of {a : Int} (h : 0 ≤ a) : ∃ n : Nat, a = (n : Int) := ⟨a.toNat, by omega⟩
def dk (k : Nat) : Nat := match k with
  | 1 => 30
  | 2 => 31
  | 3 => 32
  | 4 => 33
  | 5 => 34
  | 6 => 35
  | 7 => 36
  | 8 => 37
  | 9 => 38
  | 10 => 39
  | 11 => 40
  | 12 => 41
  | 13 => 42
  | 14 => 43
  | 15 => 44
  | 16 => 45
  | 17 => 46
  | 18 => 47
  | 19 => 48
  | _ => 0
set_option maxRecDepth 100000 in
theorem m_deeds (w : World) : Calls Tryd.prog 24 #[] w fun e w' => e = .returned (.slice (some ⟨w.heap.size, 0, none⟩) 20 20) ∧ w' = w.alloc (.cells #[.nilFunc, .func (.func 30) #[] #[], .func (.func 31) #[] #[], .func (.func 32) #[] #[], .func (.func 33) #[] #[], .func (.func 34) #[] #[], .func (.func 35) #[] #[], .func (.func 36) #[] #[], .func (.func 37) #[] #[], .func (.func 38) #[] #[], .func (.func 39) #[] #[], .func (.func 40) #[] #[], .func (.func 41) #[] #[], .func (.func 42) #[] #[], .func (.func 43) #[] #[], .func (.func 44) #[] #[], .func (.func 45) #[] #[], .func (.func 46) #[] #[], .func (.func 47) #[] #[], .func (.func 48) #[] #[]] 68) := by
  go_enter Tryd.func24, Tryd.ntmps24
  go_wp2
  go_ret
  exact ⟨rfl, rfl⟩
theorem dk_enters (op : Int) (h1 : 1 ≤ op) (h2 : op ≤ 19) : ∀ args W, (callFunc (dk op.toNat) args).run Tryd.prog W = .ok (.enter (dk op.toNat) args) W := by
  rcases op_cases op h1 h2 with rfl | rfl | rfl | rfl | rfl | rfl | rfl | rfl | rfl | rfl | rfl | rfl | rfl | rfl | rfl | rfl | rfl | rfl | rfl
  · exact enters_of Tryd.func30 (by kernel_rfl) rfl
  · exact enters_of Tryd.func31 (by kernel_rfl) rfl
  · exact enters_of Tryd.func32 (by kernel_rfl) rfl
  · exact enters_of Tryd.func33 (by kernel_rfl) rfl
  · exact enters_of Tryd.func34 (by kernel_rfl) rfl
  · exact enters_of Tryd.func35 (by kernel_rfl) rfl
  · exact enters_of Tryd.func36 (by kernel_rfl) rfl
  · exact enters_of Tryd.func37 (by kernel_rfl) rfl
  · exact enters_of Tryd.func38 (by kernel_rfl) rfl
  · exact enters_of Tryd.func39 (by kernel_rfl) rfl
  · exact enters_of Tryd.func40 (by kernel_rfl) rfl
  · exact enters_of Tryd.func41 (by kernel_rfl) rfl
  · exact enters_of Tryd.func42 (by kernel_rfl) rfl
  · exact enters_of Tryd.func43 (by kernel_rfl) rfl
  · exact enters_of Tryd.func44 (by kernel_rfl) rfl
  · exact enters_of Tryd.func45 (by kernel_rfl) rfl
  · exact enters_of Tryd.func46 (by kernel_rfl) rfl
  · exact enters_of Tryd.func47 (by kernel_rfl) rfl
  · exact enters_of Tryd.func48 (by kernel_rfl) rfl
set_option maxRecDepth 100000 in
theorem deeds_cell (w : World) (op : Int) (h1 : 1 ≤ op) (h2 : op ≤ 19) (d : Nat) (hd : w.heap.size = d) : (w.alloc (.cells #[.nilFunc, .func (.func 30) #[] #[], .func (.func 31) #[] #[], .func (.func 32) #[] #[], .func (.func 33) #[] #[], .func (.func 34) #[] #[], .func (.func 35) #[] #[], .func (.func 36) #[] #[], .func (.func 37) #[] #[], .func (.func 38) #[] #[], .func (.func 39) #[] #[], .func (.func 40) #[] #[], .func (.func 41) #[] #[], .func (.func 42) #[] #[], .func (.func 43) #[] #[], .func (.func 44) #[] #[], .func (.func 45) #[] #[], .func (.func 46) #[] #[], .func (.func 47) #[] #[], .func (.func 48) #[] #[]] 68)).cell? ⟨d, op.toNat, none⟩ = some (.func (.func (dk op.toNat)) #[] #[]) := by
  subst hd
  have hb := heap_alloc_new w (.cells #[.nilFunc, .func (.func 30) #[] #[], .func (.func 31) #[] #[], .func (.func 32) #[] #[], .func (.func 33) #[] #[], .func (.func 34) #[] #[], .func (.func 35) #[] #[], .func (.func 36) #[] #[], .func (.func 37) #[] #[], .func (.func 38) #[] #[], .func (.func 39) #[] #[], .func (.func 40) #[] #[], .func (.func 41) #[] #[], .func (.func 42) #[] #[], .func (.func 43) #[] #[], .func (.func 44) #[] #[], .func (.func 45) #[] #[], .func (.func 46) #[] #[], .func (.func 47) #[] #[], .func (.func 48) #[] #[]] 68)
  rcases op_cases op h1 h2 with rfl | rfl | rfl | rfl | rfl | rfl | rfl | rfl | rfl | rfl | rfl | rfl | rfl | rfl | rfl | rfl | rfl | rfl | rfl <;> (rw [cell_of_row _ _ _ _ _ _ hb]; rfl)
theorem deed_any (B : Bd) (g : Nat) (tv rv pv ov kv : Value) (S : Ms) (T : V → Option V) (l : List In) (x : In) (pc : Int) (w0 w : World) (hM : Mb B w g tv S rv pv ov kv) (hS : S.okk) (ho : Opd l x pc) (hT : Twf T) (hA : AskP B tv T w0) (hK : Kp (Bk B) w0 w) :
    Calls Tryd.prog (dk x.op.toNat) #[.pointer (some ⟨g, 0, none⟩), x.val] w fun e w' => DP B w g tv (doN T x S x.op.toNat) e w' := by
  have h6 := hS.r6
  have o1 := ho.o1
  have o2 := ho.o2
  obtain ⟨op, a, b, c, x⟩ := x
  dsimp only at o1 o2 ⊢
  rcases op_cases op o1 o2 with rfl | rfl | rfl | rfl | rfl | rfl | rfl | rfl | rfl | rfl | rfl | rfl | rfl | rfl | rfl | rfl | rfl | rfl | rfl
  · obtain ⟨a, rfl⟩ := nat_of (ho.a (by dsimp only; omega)).1
    have la : a < 6 := by have := (ho.a (by dsimp only; omega)).2; dsimp only at this; omega
    exact m_constant B g tv rv pv ov kv S x 1 b c a la w hM h6
  · obtain ⟨a, rfl⟩ := nat_of (ho.a (by dsimp only; omega)).1
    obtain ⟨b, rfl⟩ := nat_of (ho.b (by dsimp only; omega)).1
    have la : a < 6 := by have := (ho.a (by dsimp only; omega)).2; dsimp only at this; omega
    have lb : b < 6 := by have := (ho.b (by dsimp only; omega)).2; dsimp only at this; omega
    exact m_move B g tv rv pv ov kv S x 2 c a b la lb w hM h6
  · obtain ⟨a, rfl⟩ := nat_of (ho.a (by dsimp only; omega)).1
    obtain ⟨b, rfl⟩ := nat_of (ho.b (by dsimp only; omega)).1
    obtain ⟨c, rfl⟩ := nat_of (ho.c (by dsimp only; omega)).1
    have la : a < 6 := by have := (ho.a (by dsimp only; omega)).2; dsimp only at this; omega
    have lb : b < 6 := by have := (ho.b (by dsimp only; omega)).2; dsimp only at this; omega
    have lc : c < 6 := by have := (ho.c (by dsimp only; omega)).2; dsimp only at this; omega
    exact m_add B g tv rv pv ov kv S x 3 a b c la lb lc w hM h6
  · obtain ⟨a, rfl⟩ := nat_of (ho.a (by dsimp only; omega)).1
    obtain ⟨b, rfl⟩ := nat_of (ho.b (by dsimp only; omega)).1
    obtain ⟨c, rfl⟩ := nat_of (ho.c (by dsimp only; omega)).1
    have la : a < 6 := by have := (ho.a (by dsimp only; omega)).2; dsimp only at this; omega
    have lb : b < 6 := by have := (ho.b (by dsimp only; omega)).2; dsimp only at this; omega
    have lc : c < 6 := by have := (ho.c (by dsimp only; omega)).2; dsimp only at this; omega
    exact m_sub B g tv rv pv ov kv S x 4 a b c la lb lc w hM h6
  · obtain ⟨a, rfl⟩ := nat_of (ho.a (by dsimp only; omega)).1
    obtain ⟨b, rfl⟩ := nat_of (ho.b (by dsimp only; omega)).1
    obtain ⟨c, rfl⟩ := nat_of (ho.c (by dsimp only; omega)).1
    have la : a < 6 := by have := (ho.a (by dsimp only; omega)).2; dsimp only at this; omega
    have lb : b < 6 := by have := (ho.b (by dsimp only; omega)).2; dsimp only at this; omega
    have lc : c < 6 := by have := (ho.c (by dsimp only; omega)).2; dsimp only at this; omega
    exact m_mul B g tv rv pv ov kv S x 5 a b c la lb lc w hM h6
  · obtain ⟨a, rfl⟩ := nat_of (ho.a (by dsimp only; omega)).1
    obtain ⟨b, rfl⟩ := nat_of (ho.b (by dsimp only; omega)).1
    obtain ⟨c, rfl⟩ := nat_of (ho.c (by dsimp only; omega)).1
    have la : a < 6 := by have := (ho.a (by dsimp only; omega)).2; dsimp only at this; omega
    have lb : b < 6 := by have := (ho.b (by dsimp only; omega)).2; dsimp only at this; omega
    have lc : c < 6 := by have := (ho.c (by dsimp only; omega)).2; dsimp only at this; omega
    exact m_cat B g tv rv pv ov kv S x 6 a b c la lb lc w hM h6 (okC_size (hS.at _ (by omega) (by omega)).2) (okC_size (hS.at _ (by omega) (by omega)).2)
  · obtain ⟨a, rfl⟩ := nat_of (ho.a (by dsimp only; omega)).1
    obtain ⟨b, rfl⟩ := nat_of (ho.b (by dsimp only; omega)).1
    obtain ⟨c, rfl⟩ := nat_of (ho.c (by dsimp only; omega)).1
    have la : a < 6 := by have := (ho.a (by dsimp only; omega)).2; dsimp only at this; omega
    have lb : b < 6 := by have := (ho.b (by dsimp only; omega)).2; dsimp only at this; omega
    have lc : c < 6 := by have := (ho.c (by dsimp only; omega)).2; dsimp only at this; omega
    exact m_less B g tv rv pv ov kv S x 7 a b c la lb lc w hM h6
  · obtain ⟨a, rfl⟩ := nat_of (ho.a (by dsimp only; omega)).1
    obtain ⟨b, rfl⟩ := nat_of (ho.b (by dsimp only; omega)).1
    obtain ⟨c, rfl⟩ := nat_of (ho.c (by dsimp only; omega)).1
    have la : a < 6 := by have := (ho.a (by dsimp only; omega)).2; dsimp only at this; omega
    have lb : b < 6 := by have := (ho.b (by dsimp only; omega)).2; dsimp only at this; omega
    have lc : c < 6 := by have := (ho.c (by dsimp only; omega)).2; dsimp only at this; omega
    exact m_same B g tv rv pv ov kv S x 8 a b c la lb lc w hM h6
  · exact m_jump B g tv rv pv ov kv S x 9 a b c w hM
  · obtain ⟨b, rfl⟩ := nat_of (ho.b (by dsimp only; omega)).1
    have lb : b < 6 := by have := (ho.b (by dsimp only; omega)).2; dsimp only at this; omega
    exact m_unless B g tv rv pv ov kv S x 10 a c b lb w hM h6
  · obtain ⟨a, rfl⟩ := nat_of (ho.a (by dsimp only; omega)).1
    obtain ⟨b, rfl⟩ := nat_of (ho.b (by dsimp only; omega)).1
    have la : a < 6 := by have := (ho.a (by dsimp only; omega)).2; dsimp only at this; omega
    have lb : b < 6 := by have := (ho.b (by dsimp only; omega)).2; dsimp only at this; omega
    exact m_load B g tv rv pv ov kv S x 11 c a b la lb w hM h6 T w0 hA hK (hS.at _ (by omega) (by omega)).1 (look_wf hT hS _)
  · obtain ⟨a, rfl⟩ := nat_of (ho.a (by dsimp only; omega)).1
    obtain ⟨b, rfl⟩ := nat_of (ho.b (by dsimp only; omega)).1
    have la : a < 6 := by have := (ho.a (by dsimp only; omega)).2; dsimp only at this; omega
    have lb : b < 6 := by have := (ho.b (by dsimp only; omega)).2; dsimp only at this; omega
    exact m_store B g tv rv pv ov kv S x 12 c a b la lb w hM h6 (Nat.le_trans hS.pl (by decide))
  · obtain ⟨a, rfl⟩ := nat_of (ho.a (by dsimp only; omega)).1
    have la : a < 6 := by have := (ho.a (by dsimp only; omega)).2; dsimp only at this; omega
    exact m_drop B g tv rv pv ov kv S x 13 b c a la w hM h6 (Nat.le_trans hS.pl (by decide))
  · obtain ⟨a, rfl⟩ := nat_of (ho.a (by dsimp only; omega)).1
    have la : a < 6 := by have := (ho.a (by dsimp only; omega)).2; dsimp only at this; omega
    exact m_emit B g tv rv pv ov kv S x 14 b c a la w hM h6 (Nat.le_trans hS.ol (by decide))
  · obtain ⟨a, rfl⟩ := nat_of (ho.a (by dsimp only; omega)).1
    have la : a < 6 := by have := (ho.a (by dsimp only; omega)).2; dsimp only at this; omega
    exact m_sleep B g tv rv pv ov kv S x 15 b c a la w hM h6
  · obtain ⟨b, rfl⟩ := nat_of (ho.b (by dsimp only; omega)).1
    obtain ⟨c, rfl⟩ := nat_of (ho.c (by dsimp only; omega)).1
    have lb : b < 6 := by have := (ho.b (by dsimp only; omega)).2; dsimp only at this; omega
    have lc : c < 6 := by have := (ho.c (by dsimp only; omega)).2; dsimp only at this; omega
    exact m_child B g tv rv pv ov kv S x 16 a b c lb lc w hM h6 (Nat.le_trans hS.kl (by decide))
  · exact m_goes B g tv rv pv ov kv S _ ⟨17, a, b, c, x.k, x.n, x.s, rfl⟩ w hM h6
  · obtain ⟨a, rfl⟩ := nat_of (ho.a (by dsimp only; omega)).1
    have la : a < 6 := by have := (ho.a (by dsimp only; omega)).2; dsimp only at this; omega
    exact m_done B g tv rv pv ov kv S x 18 b c a la w hM h6
  · obtain ⟨a, rfl⟩ := nat_of (ho.a (by dsimp only; omega)).1
    have la : a < 6 := by have := (ho.a (by dsimp only; omega)).2; dsimp only at this; omega
    exact m_fail B g tv rv pv ov kv S x 19 b c a la w hM h6

end Go.Proofs.YthopmlgfklhagabDoor
