/- Contracts, over the turned program: inner nodes in memory of their own, copies, the two parts of an inner node. Conditions: those that each theorem states. -/
import Derived.Test.YtjmkfkmdafjgnaaNPk
import Derived.Test.YtjmkfkmdafjgnaaNPl
import Derived.Test.YtjmkfkmdafjgnaaNOrd2
namespace Go.Proofs.Ytjmkfkmdafjgnaa
open Go Go.RowKit
set_option linter.unusedVariables false

/-- Keys and kids that a call itself has laid, as they lie. -/
theorem ow_slice {α : Type} {f : α → Value} {e : TypeId} {w : World} {base : Nat} {v : Value} {l : List α} (h : Ow f e w base v l) : ∃ a m c, v = .slice a m c := by
  obtain ⟨a, c, rfl, _⟩ := h.sl
  exact ⟨_, _, _, rfl⟩
theorem owp_slice {w : World} {base : Nat} {v : Value} {l : List Pr} (h : OwP w base v l) : ∃ a m c, v = .slice a m c := by
  obtain ⟨a, c, rfl, _⟩ := h.prs
  exact ⟨_, _, _, rfl⟩

set_option maxRecDepth 100000 in
set_option maxHeartbeats 1000000 in
theorem inner_any (v dv : Value) (ks : List ByteArray) (kd : List Int) (B : Nat) (w : World) (hS : Sl Value.string B w v ks) (hD : Sl (Value.int .i64) B w dv kd) (hk : ks.length ≤ 100000000) (hd : kd.length ≤ 100000000) :
    Calls Try.prog 60 #[v, dv] w fun e w' => ∃ a m c a' m' c', e = .returned (.agg #[.bool false, .slice none 0 0, .slice a m c, .slice a' m' c']) ∧ Ow Value.string 9 w' w.heap.size (.slice a m c) ks ∧ Ow (Value.int .i64) 3 w' w.heap.size (.slice a' m' c') kd ∧ Kp none' w w' := by
  have hK0 : Kp none' w (w.alloc (.cells #[.bool false, .slice none 0 0, .slice none 0 0, .slice none 0 0] 26)) := Kp.alloc _ _ _
  have hr0 := Nb.new w false (.slice none 0 0) (.slice none 0 0) (.slice none 0 0)
  have HA : Hid (∀ W : World, Kp none' w W → Calls Try.prog 62 #[v] W fun e w' => ∃ a m c, e = .returned (.slice a m c) ∧ Ow Value.string 9 w' W.heap.size (.slice a m c) ks ∧ Kp none' W w') := by
    intro W hk'
    refine (cloneOS v ks B W (hS.keptN hk') hk).mono ?_
    rintro e w' ⟨v', rfl, hO, hK⟩
    obtain ⟨a, m, c, rfl⟩ := ow_slice hO
    exact ⟨a, m, c, rfl, hO, hK⟩
  have HB : Hid (∀ W : World, Kp none' w W → Calls Try.prog 63 #[dv] W fun e w' => ∃ a m c, e = .returned (.slice a m c) ∧ Ow (Value.int .i64) 3 w' W.heap.size (.slice a m c) kd ∧ Kp none' W w') := by
    intro W hk'
    refine (cloneOI dv kd B W (hD.keptN hk') hd).mono ?_
    rintro e w' ⟨v', rfl, hO, hK⟩
    obtain ⟨a, m, c, rfl⟩ := ow_slice hO
    exact ⟨a, m, c, rfl, hO, hK⟩
  have HLT : Hid (w.heap.size < (w.alloc (.cells #[.bool false, .slice none 0 0, .slice none 0 0, .slice none 0 0] 26)).heap.size) := hr0.lt
  clear hS hD
  go_enter Try.func60, Try.ntmps60
  go_upto_region 1 with fail
  generalize w.alloc (.cells #[.bool false, .slice none 0 0, .slice none 0 0, .slice none 0 0] 26) = w0 at *
  have HFR := hide hr0
  clear hr0
  go_wp2_with (first
    | (go_at_call 62; refine (HA.out _ hK0).mono ?_; rintro e w1 ⟨a1, m1, c1, rfl, hO1, hK1⟩)
    | (go_at_call 63; refine (HB.out _ (hK0.thenN hK1)).mono ?_; rintro e w2 ⟨a2, m2, c2, rfl, hO2, hK2⟩; have hr1 := HFR.out.kept (hK1.thenN hK2) (fun h => h))
    | (refine nwpList_store_nb rfl rfl (.tmp 4) (.tmp 9) rfl w.heap.size rfl rfl hr1 ?_; clear hr1; intro w3 hr1 hK3)
    | fail)
  refine bodyPost_ret (results_nb1 rfl _ w.heap.size _ rfl hr1) rfl ?_
  have h1 := hK0.size
  have h2 := hK1.size
  refine ⟨a1, m1, c1, a2, m2, c2, rfl, ((hO1.keptN hK2).kept hK3 (fun k hk h => by have := (hO1.lt k hk).1; have := HLT.out; unfold only at h; omega)).mem (by omega), (hO2.kept hK3 (fun k hk h => by have := (hO2.lt k hk).1; have := HLT.out; unfold only at h; omega)).mem (by omega), (hK0.thenN (hK1.thenN hK2)).trans hK3 (fun _ _ h => h) (fun z hz hzo => by unfold only at hzo; omega)⟩

end Go.Proofs.Ytjmkfkmdafjgnaa
