/- Contracts, over the turned program: a pager's Read. Conditions: those that each theorem states. -/
import Derived.Test.YtgfijbbibafdfaaGreatPSettle2
namespace Go.Proofs.YtgfijbbibafdfaaGreat
open Go.RowKit
set_option linter.unusedVariables false

set_option maxHeartbeats 400000 in
theorem pread_nil (n : Int) (w : World) : Calls Tryz.prog 20 #[.pointer none, .int .i64 n] w fun e w' => e = .returned (.tuple #[.string ⟨#[]⟩, .int .i64 1]) ∧ w' = w := by
  go_enter Tryz.func20, Tryz.ntmps20
  go_wp2
  go_ret2
  exact ⟨rfl, rfl⟩
/-- What a pager tells of a page. -/
def rdP (D : Dv) (bl : List Chg) (k : Nat) : ByteArray := match bl.find? (fun c => c.page == (k : Int)) with
  | some c => c.data
  | none => lookS D (placeN k)
set_option maxRecDepth 100000 in
set_option maxHeartbeats 800000 in
theorem pread_any (g n k : Nat) (p : Dp) (D : Dv) (c : Int) (bv : Value) (bl : List Chg) (w : World) (hP : Pag w g p n c bv bl) (hD : Dev w p D) (hk : k < n) (hn : 126 + 4 * n ≤ D.n) (hn2 : n ≤ 160) (hbl : bl.length ≤ 1000) :
    Calls Tryz.prog 20 #[.pointer (some ⟨g, 0, none⟩), .int .i64 k] w fun e w' => e = .returned (.tuple #[.string (rdP D bl k), .int .i64 0]) ∧ Kp none' w w' := by
  have hc0 := hP.c0
  have hc1 := hP.c1
  have hc3 := hP.c3
  obtain ⟨a, cc, rfl, _, _, ha'⟩ := hP.bs
  have ha := hide ha'
  clear ha'
  have hB : hasB n (k : Int) = true := by simp [hasB]; omega
  obtain ⟨X, HX⟩ : ∃ X, Hid (rdP D bl k = X) := ⟨_, rfl⟩
  rw [HX.out]
  have Hfind : Hid (∀ j (hj : j < bl.length), (∀ c ∈ bl.take j, (c.page == (k : Int)) = false) → bl[j].page = (k : Int) → bl[j].data = X) := fun j hj hA he => by
    rw [← HX.out]
    unfold rdP
    have e1 : bl = bl.take j ++ bl[j] :: bl.drop (j + 1) := by rw [← List.drop_eq_getElem_cons hj, List.take_append_drop]
    have e2 : bl.find? (fun c => c.page == (k : Int)) = some bl[j] := by
      rw [List.find?_eq_some_iff_append]
      exact ⟨by simp [he], bl.take j, bl.drop (j + 1), e1, fun c hc => by simp [hA c hc]⟩
    rw [e2]
  have Hnone : Hid ((∀ c ∈ bl, (c.page == (k : Int)) = false) → lookS D (placeN k) = X) := fun hA => by
    rw [← HX.out]
    unfold rdP
    have e2 : bl.find? (fun c => c.page == (k : Int)) = none := by
      rw [List.find?_eq_none]
      intro c hc
      simp [hA c hc]
    rw [e2]
  go_enter Tryz.func20, Tryz.ntmps20
  go_upto_region 5 with (go_at_call 41; refine (phas_any _ _ _ _ hc1).mono ?_; rintro e w' ⟨rfl, rfl⟩; rw [hB])
  go_wp2
  go_loopw [19] (fun t wr => ∃ j : Nat, j ≤ bl.length ∧ t = .int .i64 j ∧ (∀ c ∈ bl.take j, (c.page == (k : Int)) = false) ∧ Kp none' w' wr) (fun t _ => bl.length - (intOf t).toNat)
  case atStart => exact ⟨0, Nat.zero_le _, rfl, by simp, Kp.refl _ _⟩
  case round =>
    obtain ⟨j, hj, rfl, hA, hK⟩ := hrel
    by_cases hlt : j < bl.length
    · have hji : (j : Int) < (bl.length : Int) := by omega
      obtain ⟨b, o, rfl, hbm, hbl2, hq0, hq1⟩ := ha.out j hlt
      have d0 := hK.cell hq0 (fun h => h)
      have d1 := hK.cell hq1 (fun h => h)
      have HT := hide (List.take_succ_eq_append_getElem hlt)
      have HF := hide (Hfind.out j hlt hA)
      have hv := chg_var wr bl[j] 56
      have hka := Kp.alloc none' wr (.cells #[.int .i64 bl[j].page, .string bl[j].data] 56)
      have HA := hide hA
      clear hA hq0 hq1
      generalize bl[j] = x at *
      obtain ⟨wb, Hb⟩ : ∃ wb, Hid (wr.alloc (.cells #[.int .i64 x.page, .string x.data] 56) = wb) := ⟨_, rfl⟩
      go_upto_region 8 with fail
      rw [Hb.out]
      rw [Hb.out] at hv hka
      have v0 := hv.1
      have v1 := hv.2
      generalize wr.heap.size = gg at *
      clear hv d0 d1
      by_cases he : x.page = (k : Int)
      · have hE := HF.out he
        rw [he] at v0
        rw [hE] at v1
        go_wp2
        go_ret2
        exact ⟨rfl, hK.then hka⟩
      · have hne : (x.page == (k : Int)) = false := by simpa using he
        go_wp2
        go_roundw
        case rel =>
          refine ⟨j + 1, by omega, by go_num, ?_, hK.then hka⟩
          rw [HT.out]
          intro c hc
          rcases List.mem_append.1 hc with hc | hc
          · exact HA.out c hc
          · rw [List.mem_singleton.1 hc]; exact hne
        case measure => simp [intOf]; omega
    · obtain rfl : j = bl.length := by omega
      rw [List.take_length] at hA
      have hlk := look_place g k p D wr (hK.cell hc0 (fun h => h)) (hD.keptN hK) (by omega) (fun j hj => by unfold placeN; omega)
      rw [Hnone.out hA] at hlk
      go_wp2_with (go_at_call 42; refine hlk.mono ?_; rintro e w5 ⟨rfl, hk5⟩)
      go_ret2
      exact ⟨rfl, hK.then hk5⟩

end Go.Proofs.YtgfijbbibafdfaaGreat
