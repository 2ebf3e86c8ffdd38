/- Contract, over the turned program: the document's value of a word. Conditions: those that the theorem states. -/
import Derived.Test.YthopmlgfklhagaaGreatDoorJRc
import Derived.Test.YthopmlgfklhagaaGreatDoorJRa
import Derived.Test.YthopmlgfklhagaaGreatDoorJWh
import Derived.Test.YthopmlgfklhagaaGreatDoorJTi
import Derived.Deep.RegionHeldLaw
namespace Go.Proofs.YthopmlgfklhagaaGreatDoor
open Go.RowKit
set_option linter.unusedVariables false

/-- What Unvalue tells of a word. -/
def UnP (o : Option V) (e : Ending) : Prop := ∃ (x : V) (b : Bool), e = .returned (.tuple #[x.val, .bool b]) ∧ b = o.isSome ∧ ∀ v, o = some v → x = v
theorem unP_none (x : V) {o : Option V} (h : o = none) : UnP o (.returned (.tuple #[x.val, .bool false])) := ⟨x, false, rfl, by rw [h]; rfl, fun v hv => by rw [h] at hv; cases hv⟩
theorem unP_num {s : List UInt8} {z : Int} {b : Bool} (hh : s.headD 0 ≠ 39) (h : NumR (numW s) z b) : UnP (valU s) (.returned (.tuple #[(⟨1, z, ⟨#[]⟩⟩ : V).val, .bool b])) := by
  have e : valU s = (numW s).map (fun z => ⟨1, z, mkB []⟩) := by unfold valU; rw [if_neg hh]
  rw [e]
  refine ⟨_, _, rfl, by rw [h.1]; cases numW s <;> rfl, fun v hv => ?_⟩
  cases hn : numW s with
  | none => rw [hn] at hv; cases hv
  | some z' =>
    rw [hn] at hv
    cases hv
    rw [h.2 z' hn]
    rfl
theorem unP_text {t L : List UInt8} (h : unhex t = some L) : UnP (valU (39 :: t)) (.returned (.tuple #[(⟨2, 0, mkB L⟩ : V).val, .bool true])) := by
  have e : valU (39 :: t) = some ⟨2, 0, mkB L⟩ := by
    unfold valU
    rw [if_pos (show (39 :: t).headD (0 : UInt8) = 39 from rfl)]
    show (unhex t).map _ = _
    rw [h]
    rfl
  rw [e]
  exact ⟨_, _, rfl, rfl, fun v hv => by cases hv; rfl⟩
theorem valU_bad {t : List UInt8} (h : unhex t = none) : valU (39 :: t) = none := by
  unfold valU
  rw [if_pos (show (39 :: t).headD (0 : UInt8) = 39 from rfl)]
  show (unhex t).map _ = _
  rw [h]
  rfl

set_option maxRecDepth 100000 in
set_option maxHeartbeats 1000000 in
theorem runval_num (s : ByteArray) (w : World) (hs : s.size ≤ 1099511627776) (hh : s.data.toList.headD 0 ≠ 39) :
    Calls Tryz.prog 32 #[.string s] w fun e w' => UnP (valU s.data.toList) e ∧ w.grownBy w' none := by
  have hga := World.grownBy_alloc w (.cells #[.int .i64 0, .int .i64 0, .string ⟨#[]⟩] 33) none
  have hV : Vb (w.alloc (.cells #[.int .i64 0, .int .i64 0, .string ⟨#[]⟩] 33)) w.heap.size ⟨0, 0, ⟨#[]⟩⟩ := Vb.new w ⟨0, 0, ⟨#[]⟩⟩
  have Hn := hide (fun W => rnumber_any s W (by unfold maxLen; omega))
  have hl : s.data.toList.length = s.size := Array.length_toList
  have Hh := hide hh
  have hz : s.size = 0 ∧ ((s.toList == []) = true ∧ s.toList.isEmpty = true) ∨ 0 < s.size ∧ ((s.toList == []) = false ∧ s.toList.isEmpty = false) ∧ ∀ h : 0 < s.size, ((s[0].toNat : Int) != 39) = true := by
    rw [ByteArray.toList_eq]
    cases hd : s.data.toList with
    | nil => exact .inl ⟨by rw [← hl, hd]; rfl, rfl, rfl⟩
    | cons c r =>
      have h0 : 0 < s.size := by rw [← hl, hd]; simp
      refine .inr ⟨h0, ⟨rfl, rfl⟩, fun h => ?_⟩
      have h1 := head_of s h0
      rw [bne_iff_ne]
      intro e
      apply hh
      rw [h1]
      exact UInt8.toNat_inj.1 (by simp; omega)
  clear hl hh
  generalize hW1 : w.alloc (.cells #[.int .i64 0, .int .i64 0, .string ⟨#[]⟩] 33) = W1 at *
  have HW1 := hide hW1
  clear hW1
  have d0 := hV.c0; have d1 := hV.c1; have d2 := hV.c2; have f0 := hV.fz 0; have f1 := hV.fz 1; have f2 := hV.fz 2
  dsimp only at d0 d1 d2
  rcases hz with ⟨_, e1, e2⟩ | ⟨h0, ⟨e1, e2⟩, hne⟩
  · go_enter Tryz.func32, Tryz.ntmps32
    go_upto_region 1 with fail
    rw [HW1.out]
    go_wp2_with (go_at_call 31; refine (Hn.out _).mono ?_; rintro e w1 ⟨⟨z, b, rfl, hz⟩, rfl⟩; have Hz := hide hz; clear hz)
    have hE := hV.store3 ⟨1, z, ⟨#[]⟩⟩
    refine bodyPost_ret (results_vb rfl _ w.heap.size _ ⟨1, z, ⟨#[]⟩⟩ _ rfl rfl hE.1) rfl ?_
    exact ⟨unP_num Hh.out Hz.out, grown_new hga hE.2 (fun k e => by cases e; exact Nat.le_refl _)⟩
  · have hne := hne h0
    have h0' : (0 : Int) < (s.size : Int) := by omega
    go_enter Tryz.func32, Tryz.ntmps32
    go_upto_region 1 with fail
    rw [HW1.out]
    go_wp2_with (go_at_call 31; refine (Hn.out _).mono ?_; rintro e w1 ⟨⟨z, b, rfl, hz⟩, rfl⟩; have Hz := hide hz; clear hz)
    have hE := hV.store3 ⟨1, z, ⟨#[]⟩⟩
    refine bodyPost_ret (results_vb rfl _ w.heap.size _ ⟨1, z, ⟨#[]⟩⟩ _ rfl rfl hE.1) rfl ?_
    exact ⟨unP_num Hh.out Hz.out, grown_new hga hE.2 (fun k e => by cases e; exact Nat.le_refl _)⟩

set_option maxRecDepth 100000 in
set_option maxHeartbeats 1000000 in
theorem runval_even (s : ByteArray) (t : List UInt8) (w : World) (hs : s.size ≤ 1099511627776) (hst : s.data.toList = 39 :: t) (he : t.length % 2 = 1) :
    Calls Tryz.prog 32 #[.string s] w fun e w' => UnP (valU s.data.toList) e ∧ w.grownBy w' none := by
  have hga := World.grownBy_alloc w (.cells #[.int .i64 0, .int .i64 0, .string ⟨#[]⟩] 33) none
  have hV : Vb (w.alloc (.cells #[.int .i64 0, .int .i64 0, .string ⟨#[]⟩] 33)) w.heap.size ⟨0, 0, ⟨#[]⟩⟩ := Vb.new w ⟨0, 0, ⟨#[]⟩⟩
  have hl : s.data.toList.length = s.size := Array.length_toList
  have h0 : 0 < s.size := by rw [← hl, hst]; simp
  have h0' : (0 : Int) < (s.size : Int) := by omega
  have e1 : (s.toList == []) = false := by rw [ByteArray.toList_eq, hst]; rfl
  have e2 : s.toList.isEmpty = false := by rw [ByteArray.toList_eq, hst]; rfl
  have hne : ((s[0].toNat : Int) != 39) = false := by
    have h1 := head_of s h0
    rw [hst] at h1
    have h2 : (39 : UInt8) = s[0] := h1
    rw [← h2]
    rfl
  have hev : (s.size : Int).tmod 2 = 0 := by
    have : s.size = t.length + 1 := by rw [← hl, hst]; rfl
    rw [Int.tmod_eq_emod_of_nonneg (by omega)]
    omega
  have hev2 : ((s.size : Int).tmod 2 == 0) = true := by rw [hev]; rfl
  have hev3 : ((s.size : Int) % 2 == 0) = true := by rw [Int.tmod_eq_emod_of_nonneg (by omega)] at hev; rw [hev]; rfl
  have Hu : Hid (valU s.data.toList = none) := by show _ = _; rw [hst]; exact valU_bad (unhex_odd t he)
  clear hl hst he hev
  generalize hW1 : w.alloc (.cells #[.int .i64 0, .int .i64 0, .string ⟨#[]⟩] 33) = W1 at *
  have HW1 := hide hW1
  clear hW1
  have d0 := hV.c0; have d1 := hV.c1; have d2 := hV.c2; have f0 := hV.fz 0; have f1 := hV.fz 1; have f2 := hV.fz 2
  dsimp only at d0 d1 d2
  go_enter Tryz.func32, Tryz.ntmps32
  go_upto_region 1 with fail
  rw [HW1.out]
  go_wp2_with fail
  have hE := hV.store3 ⟨0, 0, ⟨#[]⟩⟩
  refine bodyPost_ret (results_vb rfl _ w.heap.size _ ⟨0, 0, ⟨#[]⟩⟩ _ rfl rfl hE.1) rfl ?_
  exact ⟨unP_none _ Hu.out, grown_new hga hE.2 (fun k e => by cases e; exact Nat.le_refl _)⟩

end Go.Proofs.YthopmlgfklhagaaGreatDoor
