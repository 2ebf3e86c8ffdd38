/- The list of machine's deeds, and what each of them makes of a step. Conditions: those that each theorem states. -/
import Derived.Test.YtojohdjeadolfaaDoorHJe
import Derived.Test.YtojohdjeadolfaaDoorHDg
import Derived.Test.YtojohdjeadolfaaDoorHJl
import Derived.Test.YtojohdjeadolfaaDoorHDl
import Derived.Test.YtojohdjeadolfaaDoorHJn
import Derived.Test.YtojohdjeadolfaaDoorHJs
import Derived.Test.YtojohdjeadolfaaDoorHJp
import Derived.Test.YtojohdjeadolfaaDoorHJc
import Derived.Test.YtojohdjeadolfaaDoorHDt
import Derived.Shelf.Abstract
namespace Go.Proofs.YtojohdjeadolfaaDoor
open Go.RowKit
set_option linter.unusedVariables false

theorem nat_of {a : Int} (h : 0 ≤ a) : ∃ n : Nat, a = (n : Int) := ⟨a.toNat, by omega⟩
def dk (k : Nat) : Nat := match k with
  | 1 => 39
  | 2 => 40
  | 3 => 41
  | 4 => 42
  | 5 => 43
  | 6 => 44
  | 7 => 45
  | 8 => 46
  | 9 => 47
  | 10 => 48
  | 11 => 49
  | 12 => 50
  | 13 => 51
  | 14 => 52
  | 15 => 53
  | 16 => 54
  | 17 => 55
  | 18 => 56
  | 19 => 57
  | _ => 0
set_option maxRecDepth 100000 in
theorem m_deeds (w : World) : Calls Tryd.prog 28 #[] w fun e w' => e = .returned (.slice (some ⟨w.heap.size, 0, none⟩) 20 20) ∧ w' = w.alloc (.cells #[.nilFunc, .func (.func 39) #[] #[], .func (.func 40) #[] #[], .func (.func 41) #[] #[], .func (.func 42) #[] #[], .func (.func 43) #[] #[], .func (.func 44) #[] #[], .func (.func 45) #[] #[], .func (.func 46) #[] #[], .func (.func 47) #[] #[], .func (.func 48) #[] #[], .func (.func 49) #[] #[], .func (.func 50) #[] #[], .func (.func 51) #[] #[], .func (.func 52) #[] #[], .func (.func 53) #[] #[], .func (.func 54) #[] #[], .func (.func 55) #[] #[], .func (.func 56) #[] #[], .func (.func 57) #[] #[]] 72) := by
  go_enter Tryd.func28, Tryd.ntmps28
  go_wp2
  go_ret
  exact ⟨rfl, rfl⟩
theorem dk_enters (op : Int) (h1 : 1 ≤ op) (h2 : op ≤ 19) : ∀ args W, (callFunc (dk op.toNat) args).run Tryd.prog W = .ok (.enter (dk op.toNat) args) W := by
  rcases op_cases op h1 h2 with rfl | rfl | rfl | rfl | rfl | rfl | rfl | rfl | rfl | rfl | rfl | rfl | rfl | rfl | rfl | rfl | rfl | rfl | rfl
  · exact enters_of Tryd.func39 (by kernel_rfl) rfl
  · exact enters_of Tryd.func40 (by kernel_rfl) rfl
  · exact enters_of Tryd.func41 (by kernel_rfl) rfl
  · exact enters_of Tryd.func42 (by kernel_rfl) rfl
  · exact enters_of Tryd.func43 (by kernel_rfl) rfl
  · exact enters_of Tryd.func44 (by kernel_rfl) rfl
  · exact enters_of Tryd.func45 (by kernel_rfl) rfl
  · exact enters_of Tryd.func46 (by kernel_rfl) rfl
  · exact enters_of Tryd.func47 (by kernel_rfl) rfl
  · exact enters_of Tryd.func48 (by kernel_rfl) rfl
  · exact enters_of Tryd.func49 (by kernel_rfl) rfl
  · exact enters_of Tryd.func50 (by kernel_rfl) rfl
  · exact enters_of Tryd.func51 (by kernel_rfl) rfl
  · exact enters_of Tryd.func52 (by kernel_rfl) rfl
  · exact enters_of Tryd.func53 (by kernel_rfl) rfl
  · exact enters_of Tryd.func54 (by kernel_rfl) rfl
  · exact enters_of Tryd.func55 (by kernel_rfl) rfl
  · exact enters_of Tryd.func56 (by kernel_rfl) rfl
  · exact enters_of Tryd.func57 (by kernel_rfl) rfl
set_option maxRecDepth 100000 in
theorem deeds_cell (w : World) (op : Int) (h1 : 1 ≤ op) (h2 : op ≤ 19) (d : Nat) (hd : w.heap.size = d) : (w.alloc (.cells #[.nilFunc, .func (.func 39) #[] #[], .func (.func 40) #[] #[], .func (.func 41) #[] #[], .func (.func 42) #[] #[], .func (.func 43) #[] #[], .func (.func 44) #[] #[], .func (.func 45) #[] #[], .func (.func 46) #[] #[], .func (.func 47) #[] #[], .func (.func 48) #[] #[], .func (.func 49) #[] #[], .func (.func 50) #[] #[], .func (.func 51) #[] #[], .func (.func 52) #[] #[], .func (.func 53) #[] #[], .func (.func 54) #[] #[], .func (.func 55) #[] #[], .func (.func 56) #[] #[], .func (.func 57) #[] #[]] 72)).cell? ⟨d, op.toNat, none⟩ = some (.func (.func (dk op.toNat)) #[] #[]) := by
  subst hd
  have hb := heap_alloc_new w (.cells #[.nilFunc, .func (.func 39) #[] #[], .func (.func 40) #[] #[], .func (.func 41) #[] #[], .func (.func 42) #[] #[], .func (.func 43) #[] #[], .func (.func 44) #[] #[], .func (.func 45) #[] #[], .func (.func 46) #[] #[], .func (.func 47) #[] #[], .func (.func 48) #[] #[], .func (.func 49) #[] #[], .func (.func 50) #[] #[], .func (.func 51) #[] #[], .func (.func 52) #[] #[], .func (.func 53) #[] #[], .func (.func 54) #[] #[], .func (.func 55) #[] #[], .func (.func 56) #[] #[], .func (.func 57) #[] #[]] 72)
  rcases op_cases op h1 h2 with rfl | rfl | rfl | rfl | rfl | rfl | rfl | rfl | rfl | rfl | rfl | rfl | rfl | rfl | rfl | rfl | rfl | rfl | rfl <;> (rw [cell_of_row _ _ _ _ _ _ hb]; rfl)
theorem deed_any (B : Bd) (g : Nat) (tv rv pv ov kv : Value) (S : Ms) (T : V → Option V) (l : List In) (x : In) (pc : Int) (w0 w : World) (hM : Mb B w g tv S rv pv ov kv) (hS : S.okk) (ho : Opd l x pc) (hT : Twf T) (hA : AskP B tv T w0) (hK : Kp (Bk B) w0 w) :
    Calls Tryd.prog (dk x.op.toNat) #[.pointer (some ⟨g, 0, none⟩), x.val] w fun e w' => DP B w g tv (doN T x S x.op.toNat) e w' := by
  have h6 := hS.r6
  have o1 := ho.o1
  have o2 := ho.o2
  obtain ⟨op, a, b, c, x⟩ := x
  dsimp only at o1 o2 ⊢
  rcases op_cases op o1 o2 with rfl | rfl | rfl | rfl | rfl | rfl | rfl | rfl | rfl | rfl | rfl | rfl | rfl | rfl | rfl | rfl | rfl | rfl | rfl
  · obtain ⟨a, rfl⟩ := nat_of (ho.a (by dsimp only; omega)).1
    have la : a < 6 := by have := (ho.a (by dsimp only; omega)).2; dsimp only at this; omega
    exact m_constant B g tv rv pv ov kv S x 1 b c a la w hM h6
  · obtain ⟨a, rfl⟩ := nat_of (ho.a (by dsimp only; omega)).1
    obtain ⟨b, rfl⟩ := nat_of (ho.b (by dsimp only; omega)).1
    have la : a < 6 := by have := (ho.a (by dsimp only; omega)).2; dsimp only at this; omega
    have lb : b < 6 := by have := (ho.b (by dsimp only; omega)).2; dsimp only at this; omega
    exact m_move B g tv rv pv ov kv S x 2 c a b la lb w hM h6
  · obtain ⟨a, rfl⟩ := nat_of (ho.a (by dsimp only; omega)).1
    obtain ⟨b, rfl⟩ := nat_of (ho.b (by dsimp only; omega)).1
    obtain ⟨c, rfl⟩ := nat_of (ho.c (by dsimp only; omega)).1
    have la : a < 6 := by have := (ho.a (by dsimp only; omega)).2; dsimp only at this; omega
    have lb : b < 6 := by have := (ho.b (by dsimp only; omega)).2; dsimp only at this; omega
    have lc : c < 6 := by have := (ho.c (by dsimp only; omega)).2; dsimp only at this; omega
    exact m_add B g tv rv pv ov kv S x 3 a b c la lb lc w hM h6
  · obtain ⟨a, rfl⟩ := nat_of (ho.a (by dsimp only; omega)).1
    obtain ⟨b, rfl⟩ := nat_of (ho.b (by dsimp only; omega)).1
    obtain ⟨c, rfl⟩ := nat_of (ho.c (by dsimp only; omega)).1
    have la : a < 6 := by have := (ho.a (by dsimp only; omega)).2; dsimp only at this; omega
    have lb : b < 6 := by have := (ho.b (by dsimp only; omega)).2; dsimp only at this; omega
    have lc : c < 6 := by have := (ho.c (by dsimp only; omega)).2; dsimp only at this; omega
    exact m_sub B g tv rv pv ov kv S x 4 a b c la lb lc w hM h6
  · obtain ⟨a, rfl⟩ := nat_of (ho.a (by dsimp only; omega)).1
    obtain ⟨b, rfl⟩ := nat_of (ho.b (by dsimp only; omega)).1
    obtain ⟨c, rfl⟩ := nat_of (ho.c (by dsimp only; omega)).1
    have la : a < 6 := by have := (ho.a (by dsimp only; omega)).2; dsimp only at this; omega
    have lb : b < 6 := by have := (ho.b (by dsimp only; omega)).2; dsimp only at this; omega
    have lc : c < 6 := by have := (ho.c (by dsimp only; omega)).2; dsimp only at this; omega
    exact m_mul B g tv rv pv ov kv S x 5 a b c la lb lc w hM h6
  · obtain ⟨a, rfl⟩ := nat_of (ho.a (by dsimp only; omega)).1
    obtain ⟨b, rfl⟩ := nat_of (ho.b (by dsimp only; omega)).1
    obtain ⟨c, rfl⟩ := nat_of (ho.c (by dsimp only; omega)).1
    have la : a < 6 := by have := (ho.a (by dsimp only; omega)).2; dsimp only at this; omega
    have lb : b < 6 := by have := (ho.b (by dsimp only; omega)).2; dsimp only at this; omega
    have lc : c < 6 := by have := (ho.c (by dsimp only; omega)).2; dsimp only at this; omega
    exact m_cat B g tv rv pv ov kv S x 6 a b c la lb lc w hM h6 (okC_size (hS.at _ (by omega) (by omega)).2) (okC_size (hS.at _ (by omega) (by omega)).2)
  · obtain ⟨a, rfl⟩ := nat_of (ho.a (by dsimp only; omega)).1
    obtain ⟨b, rfl⟩ := nat_of (ho.b (by dsimp only; omega)).1
    obtain ⟨c, rfl⟩ := nat_of (ho.c (by dsimp only; omega)).1
    have la : a < 6 := by have := (ho.a (by dsimp only; omega)).2; dsimp only at this; omega
    have lb : b < 6 := by have := (ho.b (by dsimp only; omega)).2; dsimp only at this; omega
    have lc : c < 6 := by have := (ho.c (by dsimp only; omega)).2; dsimp only at this; omega
    exact m_less B g tv rv pv ov kv S x 7 a b c la lb lc w hM h6
  · obtain ⟨a, rfl⟩ := nat_of (ho.a (by dsimp only; omega)).1
    obtain ⟨b, rfl⟩ := nat_of (ho.b (by dsimp only; omega)).1
    obtain ⟨c, rfl⟩ := nat_of (ho.c (by dsimp only; omega)).1
    have la : a < 6 := by have := (ho.a (by dsimp only; omega)).2; dsimp only at this; omega
    have lb : b < 6 := by have := (ho.b (by dsimp only; omega)).2; dsimp only at this; omega
    have lc : c < 6 := by have := (ho.c (by dsimp only; omega)).2; dsimp only at this; omega
    exact m_same B g tv rv pv ov kv S x 8 a b c la lb lc w hM h6
  · exact m_jump B g tv rv pv ov kv S x 9 a b c w hM
  · obtain ⟨b, rfl⟩ := nat_of (ho.b (by dsimp only; omega)).1
    have lb : b < 6 := by have := (ho.b (by dsimp only; omega)).2; dsimp only at this; omega
    exact m_unless B g tv rv pv ov kv S x 10 a c b lb w hM h6
  · obtain ⟨a, rfl⟩ := nat_of (ho.a (by dsimp only; omega)).1
    obtain ⟨b, rfl⟩ := nat_of (ho.b (by dsimp only; omega)).1
    have la : a < 6 := by have := (ho.a (by dsimp only; omega)).2; dsimp only at this; omega
    have lb : b < 6 := by have := (ho.b (by dsimp only; omega)).2; dsimp only at this; omega
    exact m_load B g tv rv pv ov kv S x 11 c a b la lb w hM h6 T w0 hA hK (hS.at _ (by omega) (by omega)).1 (look_wf hT hS _)
  · obtain ⟨a, rfl⟩ := nat_of (ho.a (by dsimp only; omega)).1
    obtain ⟨b, rfl⟩ := nat_of (ho.b (by dsimp only; omega)).1
    have la : a < 6 := by have := (ho.a (by dsimp only; omega)).2; dsimp only at this; omega
    have lb : b < 6 := by have := (ho.b (by dsimp only; omega)).2; dsimp only at this; omega
    exact m_store B g tv rv pv ov kv S x 12 c a b la lb w hM h6 (Nat.le_trans hS.pl (by decide))
  · obtain ⟨a, rfl⟩ := nat_of (ho.a (by dsimp only; omega)).1
    have la : a < 6 := by have := (ho.a (by dsimp only; omega)).2; dsimp only at this; omega
    exact m_drop B g tv rv pv ov kv S x 13 b c a la w hM h6 (Nat.le_trans hS.pl (by decide))
  · obtain ⟨a, rfl⟩ := nat_of (ho.a (by dsimp only; omega)).1
    have la : a < 6 := by have := (ho.a (by dsimp only; omega)).2; dsimp only at this; omega
    exact m_emit B g tv rv pv ov kv S x 14 b c a la w hM h6 (Nat.le_trans hS.ol (by decide))
  · obtain ⟨a, rfl⟩ := nat_of (ho.a (by dsimp only; omega)).1
    have la : a < 6 := by have := (ho.a (by dsimp only; omega)).2; dsimp only at this; omega
    exact m_sleep B g tv rv pv ov kv S x 15 b c a la w hM h6
  · obtain ⟨b, rfl⟩ := nat_of (ho.b (by dsimp only; omega)).1
    obtain ⟨c, rfl⟩ := nat_of (ho.c (by dsimp only; omega)).1
    have lb : b < 6 := by have := (ho.b (by dsimp only; omega)).2; dsimp only at this; omega
    have lc : c < 6 := by have := (ho.c (by dsimp only; omega)).2; dsimp only at this; omega
    exact m_child B g tv rv pv ov kv S x 16 a b c lb lc w hM h6 (Nat.le_trans hS.kl (by decide))
  · exact m_goes B g tv rv pv ov kv S _ ⟨17, a, b, c, x.k, x.n, x.s, rfl⟩ w hM h6
  · obtain ⟨a, rfl⟩ := nat_of (ho.a (by dsimp only; omega)).1
    have la : a < 6 := by have := (ho.a (by dsimp only; omega)).2; dsimp only at this; omega
    exact m_done B g tv rv pv ov kv S x 18 b c a la w hM h6
  · obtain ⟨a, rfl⟩ := nat_of (ho.a (by dsimp only; omega)).1
    have la : a < 6 := by have := (ho.a (by dsimp only; omega)).2; dsimp only at this; omega
    exact m_fail B g tv rv pv ov kv S x 19 b c a la w hM h6

end Go.Proofs.YtojohdjeadolfaaDoor
