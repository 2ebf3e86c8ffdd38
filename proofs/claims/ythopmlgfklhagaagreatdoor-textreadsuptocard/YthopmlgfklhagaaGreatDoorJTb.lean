/- Contract, over the turned program: the word of a value. Conditions: those that the theorem states. -/
import Derived.Test.YthopmlgfklhagaaGreatDoorJTa
import Derived.Deep.RegionHeldLaw
namespace Go.Proofs.YthopmlgfklhagaaGreatDoor
open Go.RowKit
set_option linter.unusedVariables false

theorem own_lit (w : World) (base : Nat) (l : List UInt8) (hb : base ≤ w.heap.size) (hl : l.length ≤ maxLen) : Own 5 (w.alloc (.cells (bcs l).toArray 5)) base (.slice (some ⟨w.heap.size, 0, none⟩) l.length l.length) l := by
  have h := World.ownsRow_lit (base := base) (e := 5) (size := 1) w (bcs l).toArray l.length hb hl (by simp [bcs])
  simpa [Own] using h
set_option maxRecDepth 100000 in
set_option maxHeartbeats 800000 in
theorem spellValue_int (xn : Int) (s : ByteArray) (w : World) (n0 : -9223372036854775808 ≤ xn) (n1 : xn < 9223372036854775808) (hG : G14 w) :
    Calls Tryz.prog 40 #[(⟨1, xn, s⟩ : V).val] w fun e w' => e = .returned (.string (mkB (Lib.itoa xn))) ∧ w.grownBy w' none := by
  have hb := Vb.new w ⟨1, xn, s⟩
  have hg0 := World.grownBy_alloc w (.cells #[.int .i64 1, .int .i64 xn, .string s] 33) none
  have hT1 := (hG.keptN hg0).t10
  obtain ⟨c0, c1, c2⟩ : _ ∧ _ ∧ _ := ⟨hb.c0, hb.c1, hb.c2⟩
  dsimp only at c0 c1 c2 hg0 hT1
  unfold V.val
  go_enter Tryz.func40, Tryz.ntmps40
  go_wp2_with (go_at_call 60; refine (rfmt_any xn _ n0 n1 hT1).mono ?_; rintro e w1 ⟨rfl, hg1⟩)
  go_ret
  exact ⟨rfl, grown_up hg0 hg1⟩

end Go.Proofs.YthopmlgfklhagaaGreatDoor
