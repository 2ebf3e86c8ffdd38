/- The walk of the law NodeFinds. Conditions: those that the theorem states. -/
import Derived.Test.YtjmkfkmdafjgnaaNLv
import Derived.Test.YtjmkfkmdafjgnaaNRef
namespace Go.Proofs.Ytjmkfkmdafjgnaa.nodeFinds
open Go.RowKit
set_option linter.unusedVariables false

set_option maxRecDepth 100000 in
set_option maxHeartbeats 1000000 in
theorem walk (x : Value) (n : Nd) (k : ByteArray) (w : World) (hN : Nv w.heap.size w x n) (hk : k.size ≤ maxLen) : Calls Try.prog 4 #[x, .string k] w fun e w' => e = .returned (.bool true) ∧ w.grownBy w' none := by
  have hN' := hN
  obtain ⟨⟨pv, kv, dv, rfl, hP, hS, hD⟩, hwf⟩ := hN'
  obtain ⟨a1, c1, rfl, _⟩ := hP
  obtain ⟨a2, c2, rfl, _⟩ := hS
  obtain ⟨a3, c3, rfl, _⟩ := hD
  have hb := Nb.new w n.leaf (.slice a1 n.ps.length c1) (.slice a2 n.ks.length c2) (.slice a3 n.kd.length c3)
  have hK0 : Kp none' w (w.alloc (.cells #[.bool n.leaf, .slice a1 n.ps.length c1, .slice a2 n.ks.length c2, .slice a3 n.kd.length c3] 26)) := Kp.alloc _ _ _
  obtain ⟨i, Hi⟩ : ∃ i, Hid (findN n.ps k = i) := ⟨findN n.ps k, hide rfl⟩
  obtain ⟨t, Ht⟩ : ∃ t, Hid (hasN n.ps k = t) := ⟨hasN n.ps k, hide rfl⟩
  obtain ⟨q, Hq⟩ : ∃ q, Hid (childN n.ks k = q) := ⟨childN n.ks k, hide rfl⟩
  have HF : Hid (∀ W : World, Kp none' w W → Calls Try.prog 12 #[.agg #[.bool n.leaf, .slice a1 n.ps.length c1, .slice a2 n.ks.length c2, .slice a3 n.kd.length c3], .string k] W fun e w' => e = .returned (.tuple #[.int .i64 (i : Int), .bool t]) ∧ Kp none' W w') := by
    intro W hk
    rw [← Hi.out, ← Ht.out]
    exact find_any _ n _ k W (hN.keptN hk)
  have HG : Hid (∀ W : World, Kp none' w W → Calls Try.prog 13 #[.agg #[.bool n.leaf, .slice a1 n.ps.length c1, .slice a2 n.ks.length c2, .slice a3 n.kd.length c3], .string k] W fun e w' => e = .returned (.tuple #[.int .i64 (i : Int), .bool t]) ∧ Kp none' W w') := by
    intro W hk'
    rw [← Hi.out, ← Ht.out]
    exact rfind_any _ n _ k W (hN.keptN hk') hk
  have HC : Hid (∀ W : World, Kp none' w W → Calls Try.prog 14 #[.agg #[.bool n.leaf, .slice a1 n.ps.length c1, .slice a2 n.ks.length c2, .slice a3 n.kd.length c3], .string k] W fun e w' => e = .returned (.int .i64 (q : Int)) ∧ Kp none' W w') := by
    intro W hk'
    rw [← Hq.out]
    exact child_any _ n _ k W (hN.keptN hk')
  have HD : Hid (∀ W : World, Kp none' w W → Calls Try.prog 15 #[.agg #[.bool n.leaf, .slice a1 n.ps.length c1, .slice a2 n.ks.length c2, .slice a3 n.kd.length c3], .string k] W fun e w' => e = .returned (.int .i64 (q : Int)) ∧ Kp none' W w') := by
    intro W hk'
    rw [← Hq.out]
    exact rchild_any _ n _ k W (hN.keptN hk') hk
  clear hN hwf
  obtain ⟨lp, Hlp⟩ : ∃ l, Hid (n.ps.length = l) := ⟨_, rfl⟩
  obtain ⟨lk, Hlk⟩ : ∃ l, Hid (n.ks.length = l) := ⟨_, rfl⟩
  obtain ⟨ld, Hld⟩ : ∃ l, Hid (n.kd.length = l) := ⟨_, rfl⟩
  obtain ⟨lf, Hlf⟩ : ∃ l, Hid (n.leaf = l) := ⟨_, rfl⟩
  rw [Hlp.out, Hlk.out, Hld.out, Hlf.out] at hb hK0 HF HG HC HD ⊢
  go_enter Try.func4, Try.ntmps4
  go_upto_region 3 with (first
    | (go_at_call 7; refine (lives9_any _).mono ?_; rintro e w1 ⟨rfl, hk1⟩)
    | fail)
  have b1 := hb.kept (S := none') hk1 (fun h => h)
  have d0 := b1.c0
  have d1 := b1.c1
  have d2 := b1.c2
  have d3 := b1.c3
  have S1 := hK0.thenN hk1
  go_upto_region 4 with (first
    | (go_at_call 12; refine (HF.out _ S1).mono ?_; rintro e w2 ⟨rfl, hk2⟩)
    | fail)
  have b2 := b1.kept hk2 (fun h => h)
  clear d0 d1 d2 d3
  have d0 := b2.c0
  have d1 := b2.c1
  have d2 := b2.c2
  have d3 := b2.c3
  have S2 := S1.thenN hk2
  go_upto_region 5 with (first
    | (go_at_call 13; refine (HG.out _ S2).mono ?_; rintro e w3 ⟨rfl, hk3⟩)
    | fail)
  have b3 := b2.kept hk3 (fun h => h)
  have S3 := S2.thenN hk3
  clear d0 d1 d2 d3
  have f0 : ∀ W : World, Kp none' w3 W → W.cell? ⟨w.heap.size, 0, none⟩ = some (.bool lf) := fun W hk => (b3.kept hk (fun h => h)).c0
  have f1 : ∀ W : World, Kp none' w3 W → W.cell? ⟨w.heap.size, 1, none⟩ = some (.slice a1 lp c1) := fun W hk => (b3.kept hk (fun h => h)).c1
  have f2 : ∀ W : World, Kp none' w3 W → W.cell? ⟨w.heap.size, 2, none⟩ = some (.slice a2 lk c2) := fun W hk => (b3.kept hk (fun h => h)).c2
  have f3 : ∀ W : World, Kp none' w3 W → W.cell? ⟨w.heap.size, 3, none⟩ = some (.slice a3 ld c3) := fun W hk => (b3.kept hk (fun h => h)).c3
  have dr : Kp none' w3 w3.drew := Kp.drew _ _
  have hti : (t == t) = true := by cases t <;> rfl
  clear b1 b2 hb hk1 hk2 S1 S2 hK0
  go_region_held_law (fun W => Kp none' w3 W) (first | assumption | exact dr) (first
    | (go_at_call 14; refine (HC.out _ (S3.thenN (by assumption))).mono ?_; rintro e w4 ⟨rfl, hg4⟩; have S4 : Kp none' w3 w4 := Kp.thenN (by assumption) hg4)
    | (go_at_call 15; refine (HD.out _ (S3.thenN (by assumption))).mono ?_; rintro e w5 ⟨rfl, hg5⟩; have S5 : Kp none' w3 w5 := Kp.thenN (by assumption) hg5))
  go_wp2
  go_ret
  exact ⟨by simp, (S3.thenN (by assumption)).grown⟩

end Go.Proofs.Ytjmkfkmdafjgnaa.nodeFinds
