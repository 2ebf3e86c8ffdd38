/- The list of machine's deeds, and what each of them makes of a step. Conditions: those that each theorem states. -/
import Derived.Test.YtpoahegccjgnjaaGreatDoorHJe
import Derived.Test.YtpoahegccjgnjaaGreatDoorHDg
import Derived.Test.YtpoahegccjgnjaaGreatDoorHJl
import Derived.Test.YtpoahegccjgnjaaGreatDoorHDl
import Derived.Test.YtpoahegccjgnjaaGreatDoorHJn
import Derived.Test.YtpoahegccjgnjaaGreatDoorHJs
import Derived.Test.YtpoahegccjgnjaaGreatDoorHJp
import Derived.Test.YtpoahegccjgnjaaGreatDoorHJc
import Derived.Test.YtpoahegccjgnjaaGreatDoorHDt
import Derived.Shelf.Abstract
namespace Go.Proofs.YtpoahegccjgnjaaGreatDoor
open Go.RowKit
set_option linter.unusedVariables false

theorem nat_of {a : Int} (h : 0 ≤ a) : ∃ n : Nat, a = (n : Int) := ⟨a.toNat, by omega⟩
def dk (k : Nat) : Nat := match k with
  | 1 => 23
  | 2 => 24
  | 3 => 25
  | 4 => 26
  | 5 => 27
  | 6 => 28
  | 7 => 29
  | 8 => 30
  | 9 => 31
  | 10 => 32
  | 11 => 33
  | 12 => 34
  | 13 => 35
  | 14 => 36
  | 15 => 37
  | 16 => 38
  | 17 => 39
  | 18 => 40
  | 19 => 41
  | _ => 0
set_option maxRecDepth 100000 in
theorem m_deeds (w : World) : Calls Tryz.prog 13 #[] w fun e w' => e = .returned (.slice (some ⟨w.heap.size, 0, none⟩) 20 20) ∧ w' = w.alloc (.cells #[.nilFunc, .func (.func 23) #[] #[], .func (.func 24) #[] #[], .func (.func 25) #[] #[], .func (.func 26) #[] #[], .func (.func 27) #[] #[], .func (.func 28) #[] #[], .func (.func 29) #[] #[], .func (.func 30) #[] #[], .func (.func 31) #[] #[], .func (.func 32) #[] #[], .func (.func 33) #[] #[], .func (.func 34) #[] #[], .func (.func 35) #[] #[], .func (.func 36) #[] #[], .func (.func 37) #[] #[], .func (.func 38) #[] #[], .func (.func 39) #[] #[], .func (.func 40) #[] #[], .func (.func 41) #[] #[]] 53) := by
  go_enter Tryz.func13, Tryz.ntmps13
  go_wp2
  go_ret
  exact ⟨rfl, rfl⟩
theorem dk_enters (op : Int) (h1 : 1 ≤ op) (h2 : op ≤ 19) : ∀ args W, (callFunc (dk op.toNat) args).run Tryz.prog W = .ok (.enter (dk op.toNat) args) W := by
  rcases op_cases op h1 h2 with rfl | rfl | rfl | rfl | rfl | rfl | rfl | rfl | rfl | rfl | rfl | rfl | rfl | rfl | rfl | rfl | rfl | rfl | rfl
  · exact enters_of Tryz.func23 (by kernel_rfl) rfl
  · exact enters_of Tryz.func24 (by kernel_rfl) rfl
  · exact enters_of Tryz.func25 (by kernel_rfl) rfl
  · exact enters_of Tryz.func26 (by kernel_rfl) rfl
  · exact enters_of Tryz.func27 (by kernel_rfl) rfl
  · exact enters_of Tryz.func28 (by kernel_rfl) rfl
  · exact enters_of Tryz.func29 (by kernel_rfl) rfl
  · exact enters_of Tryz.func30 (by kernel_rfl) rfl
  · exact enters_of Tryz.func31 (by kernel_rfl) rfl
  · exact enters_of Tryz.func32 (by kernel_rfl) rfl
  · exact enters_of Tryz.func33 (by kernel_rfl) rfl
  · exact enters_of Tryz.func34 (by kernel_rfl) rfl
  · exact enters_of Tryz.func35 (by kernel_rfl) rfl
  · exact enters_of Tryz.func36 (by kernel_rfl) rfl
  · exact enters_of Tryz.func37 (by kernel_rfl) rfl
  · exact enters_of Tryz.func38 (by kernel_rfl) rfl
  · exact enters_of Tryz.func39 (by kernel_rfl) rfl
  · exact enters_of Tryz.func40 (by kernel_rfl) rfl
  · exact enters_of Tryz.func41 (by kernel_rfl) rfl
set_option maxRecDepth 100000 in
theorem deeds_cell (w : World) (op : Int) (h1 : 1 ≤ op) (h2 : op ≤ 19) (d : Nat) (hd : w.heap.size = d) : (w.alloc (.cells #[.nilFunc, .func (.func 23) #[] #[], .func (.func 24) #[] #[], .func (.func 25) #[] #[], .func (.func 26) #[] #[], .func (.func 27) #[] #[], .func (.func 28) #[] #[], .func (.func 29) #[] #[], .func (.func 30) #[] #[], .func (.func 31) #[] #[], .func (.func 32) #[] #[], .func (.func 33) #[] #[], .func (.func 34) #[] #[], .func (.func 35) #[] #[], .func (.func 36) #[] #[], .func (.func 37) #[] #[], .func (.func 38) #[] #[], .func (.func 39) #[] #[], .func (.func 40) #[] #[], .func (.func 41) #[] #[]] 53)).cell? ⟨d, op.toNat, none⟩ = some (.func (.func (dk op.toNat)) #[] #[]) := by
  subst hd
  have hb := heap_alloc_new w (.cells #[.nilFunc, .func (.func 23) #[] #[], .func (.func 24) #[] #[], .func (.func 25) #[] #[], .func (.func 26) #[] #[], .func (.func 27) #[] #[], .func (.func 28) #[] #[], .func (.func 29) #[] #[], .func (.func 30) #[] #[], .func (.func 31) #[] #[], .func (.func 32) #[] #[], .func (.func 33) #[] #[], .func (.func 34) #[] #[], .func (.func 35) #[] #[], .func (.func 36) #[] #[], .func (.func 37) #[] #[], .func (.func 38) #[] #[], .func (.func 39) #[] #[], .func (.func 40) #[] #[], .func (.func 41) #[] #[]] 53)
  rcases op_cases op h1 h2 with rfl | rfl | rfl | rfl | rfl | rfl | rfl | rfl | rfl | rfl | rfl | rfl | rfl | rfl | rfl | rfl | rfl | rfl | rfl <;> (rw [cell_of_row _ _ _ _ _ _ hb]; rfl)
theorem deed_any (B : Bd) (g : Nat) (tv rv pv ov kv : Value) (S : Ms) (T : V → Option V) (l : List In) (x : In) (pc : Int) (w0 w : World) (hM : Mb B w g tv S rv pv ov kv) (hS : S.okk) (ho : Opd l x pc) (hT : Twf T) (hA : AskP B tv T w0) (hK : Kp (Bk B) w0 w) :
    Calls Tryz.prog (dk x.op.toNat) #[.pointer (some ⟨g, 0, none⟩), x.val] w fun e w' => DP B w g tv (doN T x S x.op.toNat) e w' := by
  have h6 := hS.r6
  have o1 := ho.o1
  have o2 := ho.o2
  obtain ⟨op, a, b, c, x⟩ := x
  dsimp only at o1 o2 ⊢
  rcases op_cases op o1 o2 with rfl | rfl | rfl | rfl | rfl | rfl | rfl | rfl | rfl | rfl | rfl | rfl | rfl | rfl | rfl | rfl | rfl | rfl | rfl
  · obtain ⟨a, rfl⟩ := nat_of (ho.a (by dsimp only; omega)).1
    have la : a < 6 := by have := (ho.a (by dsimp only; omega)).2; dsimp only at this; omega
    exact m_constant B g tv rv pv ov kv S x 1 b c a la w hM h6
  · obtain ⟨a, rfl⟩ := nat_of (ho.a (by dsimp only; omega)).1
    obtain ⟨b, rfl⟩ := nat_of (ho.b (by dsimp only; omega)).1
    have la : a < 6 := by have := (ho.a (by dsimp only; omega)).2; dsimp only at this; omega
    have lb : b < 6 := by have := (ho.b (by dsimp only; omega)).2; dsimp only at this; omega
    exact m_move B g tv rv pv ov kv S x 2 c a b la lb w hM h6
  · obtain ⟨a, rfl⟩ := nat_of (ho.a (by dsimp only; omega)).1
    obtain ⟨b, rfl⟩ := nat_of (ho.b (by dsimp only; omega)).1
    obtain ⟨c, rfl⟩ := nat_of (ho.c (by dsimp only; omega)).1
    have la : a < 6 := by have := (ho.a (by dsimp only; omega)).2; dsimp only at this; omega
    have lb : b < 6 := by have := (ho.b (by dsimp only; omega)).2; dsimp only at this; omega
    have lc : c < 6 := by have := (ho.c (by dsimp only; omega)).2; dsimp only at this; omega
    exact m_add B g tv rv pv ov kv S x 3 a b c la lb lc w hM h6
  · obtain ⟨a, rfl⟩ := nat_of (ho.a (by dsimp only; omega)).1
    obtain ⟨b, rfl⟩ := nat_of (ho.b (by dsimp only; omega)).1
    obtain ⟨c, rfl⟩ := nat_of (ho.c (by dsimp only; omega)).1
    have la : a < 6 := by have := (ho.a (by dsimp only; omega)).2; dsimp only at this; omega
    have lb : b < 6 := by have := (ho.b (by dsimp only; omega)).2; dsimp only at this; omega
    have lc : c < 6 := by have := (ho.c (by dsimp only; omega)).2; dsimp only at this; omega
    exact m_sub B g tv rv pv ov kv S x 4 a b c la lb lc w hM h6
  · obtain ⟨a, rfl⟩ := nat_of (ho.a (by dsimp only; omega)).1
    obtain ⟨b, rfl⟩ := nat_of (ho.b (by dsimp only; omega)).1
    obtain ⟨c, rfl⟩ := nat_of (ho.c (by dsimp only; omega)).1
    have la : a < 6 := by have := (ho.a (by dsimp only; omega)).2; dsimp only at this; omega
    have lb : b < 6 := by have := (ho.b (by dsimp only; omega)).2; dsimp only at this; omega
    have lc : c < 6 := by have := (ho.c (by dsimp only; omega)).2; dsimp only at this; omega
    exact m_mul B g tv rv pv ov kv S x 5 a b c la lb lc w hM h6
  · obtain ⟨a, rfl⟩ := nat_of (ho.a (by dsimp only; omega)).1
    obtain ⟨b, rfl⟩ := nat_of (ho.b (by dsimp only; omega)).1
    obtain ⟨c, rfl⟩ := nat_of (ho.c (by dsimp only; omega)).1
    have la : a < 6 := by have := (ho.a (by dsimp only; omega)).2; dsimp only at this; omega
    have lb : b < 6 := by have := (ho.b (by dsimp only; omega)).2; dsimp only at this; omega
    have lc : c < 6 := by have := (ho.c (by dsimp only; omega)).2; dsimp only at this; omega
    exact m_cat B g tv rv pv ov kv S x 6 a b c la lb lc w hM h6 (okC_size (hS.at _ (by omega) (by omega)).2) (okC_size (hS.at _ (by omega) (by omega)).2)
  · obtain ⟨a, rfl⟩ := nat_of (ho.a (by dsimp only; omega)).1
    obtain ⟨b, rfl⟩ := nat_of (ho.b (by dsimp only; omega)).1
    obtain ⟨c, rfl⟩ := nat_of (ho.c (by dsimp only; omega)).1
    have la : a < 6 := by have := (ho.a (by dsimp only; omega)).2; dsimp only at this; omega
    have lb : b < 6 := by have := (ho.b (by dsimp only; omega)).2; dsimp only at this; omega
    have lc : c < 6 := by have := (ho.c (by dsimp only; omega)).2; dsimp only at this; omega
    exact m_less B g tv rv pv ov kv S x 7 a b c la lb lc w hM h6
  · obtain ⟨a, rfl⟩ := nat_of (ho.a (by dsimp only; omega)).1
    obtain ⟨b, rfl⟩ := nat_of (ho.b (by dsimp only; omega)).1
    obtain ⟨c, rfl⟩ := nat_of (ho.c (by dsimp only; omega)).1
    have la : a < 6 := by have := (ho.a (by dsimp only; omega)).2; dsimp only at this; omega
    have lb : b < 6 := by have := (ho.b (by dsimp only; omega)).2; dsimp only at this; omega
    have lc : c < 6 := by have := (ho.c (by dsimp only; omega)).2; dsimp only at this; omega
    exact m_same B g tv rv pv ov kv S x 8 a b c la lb lc w hM h6
  · exact m_jump B g tv rv pv ov kv S x 9 a b c w hM
  · obtain ⟨b, rfl⟩ := nat_of (ho.b (by dsimp only; omega)).1
    have lb : b < 6 := by have := (ho.b (by dsimp only; omega)).2; dsimp only at this; omega
    exact m_unless B g tv rv pv ov kv S x 10 a c b lb w hM h6
  · obtain ⟨a, rfl⟩ := nat_of (ho.a (by dsimp only; omega)).1
    obtain ⟨b, rfl⟩ := nat_of (ho.b (by dsimp only; omega)).1
    have la : a < 6 := by have := (ho.a (by dsimp only; omega)).2; dsimp only at this; omega
    have lb : b < 6 := by have := (ho.b (by dsimp only; omega)).2; dsimp only at this; omega
    exact m_load B g tv rv pv ov kv S x 11 c a b la lb w hM h6 T w0 hA hK (hS.at _ (by omega) (by omega)).1 (look_wf hT hS _)
  · obtain ⟨a, rfl⟩ := nat_of (ho.a (by dsimp only; omega)).1
    obtain ⟨b, rfl⟩ := nat_of (ho.b (by dsimp only; omega)).1
    have la : a < 6 := by have := (ho.a (by dsimp only; omega)).2; dsimp only at this; omega
    have lb : b < 6 := by have := (ho.b (by dsimp only; omega)).2; dsimp only at this; omega
    exact m_store B g tv rv pv ov kv S x 12 c a b la lb w hM h6 (Nat.le_trans hS.pl (by decide))
  · obtain ⟨a, rfl⟩ := nat_of (ho.a (by dsimp only; omega)).1
    have la : a < 6 := by have := (ho.a (by dsimp only; omega)).2; dsimp only at this; omega
    exact m_drop B g tv rv pv ov kv S x 13 b c a la w hM h6 (Nat.le_trans hS.pl (by decide))
  · obtain ⟨a, rfl⟩ := nat_of (ho.a (by dsimp only; omega)).1
    have la : a < 6 := by have := (ho.a (by dsimp only; omega)).2; dsimp only at this; omega
    exact m_emit B g tv rv pv ov kv S x 14 b c a la w hM h6 (Nat.le_trans hS.ol (by decide))
  · obtain ⟨a, rfl⟩ := nat_of (ho.a (by dsimp only; omega)).1
    have la : a < 6 := by have := (ho.a (by dsimp only; omega)).2; dsimp only at this; omega
    exact m_sleep B g tv rv pv ov kv S x 15 b c a la w hM h6
  · obtain ⟨b, rfl⟩ := nat_of (ho.b (by dsimp only; omega)).1
    obtain ⟨c, rfl⟩ := nat_of (ho.c (by dsimp only; omega)).1
    have lb : b < 6 := by have := (ho.b (by dsimp only; omega)).2; dsimp only at this; omega
    have lc : c < 6 := by have := (ho.c (by dsimp only; omega)).2; dsimp only at this; omega
    exact m_child B g tv rv pv ov kv S x 16 a b c lb lc w hM h6 (Nat.le_trans hS.kl (by decide))
  · exact m_goes B g tv rv pv ov kv S _ ⟨17, a, b, c, x.k, x.n, x.s, rfl⟩ w hM h6
  · obtain ⟨a, rfl⟩ := nat_of (ho.a (by dsimp only; omega)).1
    have la : a < 6 := by have := (ho.a (by dsimp only; omega)).2; dsimp only at this; omega
    exact m_done B g tv rv pv ov kv S x 18 b c a la w hM h6
  · obtain ⟨a, rfl⟩ := nat_of (ho.a (by dsimp only; omega)).1
    have la : a < 6 := by have := (ho.a (by dsimp only; omega)).2; dsimp only at this; omega
    exact m_fail B g tv rv pv ov kv S x 19 b c a la w hM h6

end Go.Proofs.YtpoahegccjgnjaaGreatDoor
