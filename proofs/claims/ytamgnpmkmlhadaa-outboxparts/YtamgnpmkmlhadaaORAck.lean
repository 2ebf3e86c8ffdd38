/- Contract, over the turned program: the document's Ack of a box. Conditions: those that each theorem states. -/
import Derived.Test.YtamgnpmkmlhadaaORFrom
namespace Go.Proofs.Ytamgnpmkmlhadaa
open Go Go.RowKit
set_option linter.unusedVariables false

set_option maxRecDepth 100000 in
set_option maxHeartbeats 1000000 in
theorem rack_no {q : Nat} {v : Value} {g : Option Nat} {a y : Int} {l : List Ms} (z : Int) (w : World) (h : Qx w q v g a y l) (hz : y < z) :
    Calls Try.prog 19 #[.pointer (some ⟨q, 0, none⟩), .int .i64 z] w fun e w' => e = .returned (.int .i64 7) ∧ w' = w := by
  have c2 := h.c2
  clear h
  go_enter Try.func19, Try.ntmps19
  go_wp2
  go_ret
  exact ⟨rfl, rfl⟩
set_option maxRecDepth 100000 in
set_option maxHeartbeats 1000000 in
theorem rack_old {q : Nat} {v : Value} {g : Option Nat} {a y : Int} {l : List Ms} (z : Int) (w : World) (h : Qx w q v g a y l) (hz : z ≤ y) (hz2 : z ≤ a) :
    Calls Try.prog 19 #[.pointer (some ⟨q, 0, none⟩), .int .i64 z] w fun e w' => e = .returned (.int .i64 0) ∧ w' = w := by
  have c2 := h.c2
  have c1 := h.c1
  have hz' : ¬ y < z := by omega
  clear h
  go_enter Try.func19, Try.ntmps19
  go_wp2
  go_ret
  exact ⟨rfl, rfl⟩
set_option maxRecDepth 100000 in
set_option maxHeartbeats 4000000 in
theorem rack_new {q : Nat} {v : Value} {g : Option Nat} {a y : Int} {l : List Ms} (z : Int) (w : World) (h : Qx w q v g a y l) (hl : l.length ≤ 1000) (hz : z ≤ y) (hz2 : a < z) :
    Calls Try.prog 19 #[.pointer (some ⟨q, 0, none⟩), .int .i64 z] w fun e w' => e = .returned (.int .i64 0) ∧ Nq q g z y (l.filter (fun m => decide (z < m.q))) w w' := by
  have c2 := h.c2
  have c1 := h.c1
  have f1 := h.fz 1
  have hzy : ¬ y < z := by omega
  have hza : ¬ z ≤ a := by omega
  have H1 := h.set1 z
  have k1 : Kp (Ft q g) w (w.setCell ⟨q, 1, none⟩ (.int .i64 z)) := Kp.setCell w q 1 _ (.inl rfl)
  have hsz : (w.setCell ⟨q, 1, none⟩ (.int .i64 z)).heap.size = w.heap.size := by simp
  obtain ⟨W0, hW0⟩ : ∃ W0, w.setCell ⟨q, 1, none⟩ (.int .i64 z) = W0 := ⟨_, rfl⟩
  rw [hW0] at H1 k1 hsz
  have hc0 := H1.c0
  have hlv := h.ow.rw
  obtain ⟨av, cv, rfl, hlc, hcm, hcell⟩ := H1.ow.rw
  have HC := hide hcell
  have HH := hide H1
  have KK := hide k1
  have HS := hide hsz
  obtain ⟨FL, HFL⟩ : ∃ F, Hid (l.filter (fun m => decide (z < m.q)) = F) := ⟨_, rfl⟩
  obtain ⟨N, HN⟩ : ∃ N, Hid (l.length = N) := ⟨_, rfl⟩
  rw [HN.out] at hc0 hl
  rw [HFL.out]
  clear h hcell hlc hcm H1 k1 hlv hsz
  go_enter Try.func19, Try.ntmps19
  go_upto_region 6 with fail
  clear hW0 c1 c2 f1
  go_wp2
  go_loopw [5, 6] (fun t u wr => ∃ i : Nat, i ≤ N ∧ u = .int .i64 i ∧ OwM wr W0.heap.size t (flt l z i) ∧ W0.grownBy wr none) (fun _ u _ => N - (intOf u).toNat)
  case atStart => exact ⟨0, Nat.zero_le _, rfl, OwR.nil, World.grownBy.refl _ _⟩
  case round =>
    obtain ⟨i, hi, rfl, ho, hg⟩ := hrel
    have kp := Kp.ofN hg none'
    have c0 := kp.cell hc0 (fun h => h)
    obtain ⟨aq, cq, rfl⟩ := ho.slc
    have hfl := flt_len l z i
    rw [HN.out] at hfl
    obtain ⟨K, HK⟩ : ∃ K, Hid ((flt l z i).length = K) := ⟨_, rfl⟩
    rw [HK.out] at ho hfl ⊢
    by_cases hlt : i < N
    · have hii : (i : Int) < (N : Int) := by omega
      have hil : i < l.length := by rw [HN.out]; exact hlt
      obtain ⟨b, off, eb, hbw, xc⟩ := HC.out i hil
      subst eb
      have hy := @flt_yes l z i hil
      have hno := @flt_no l z i hil
      obtain ⟨m, Hm⟩ : ∃ m, Hid (l[i] = m) := ⟨l[i], hide rfl⟩
      rw [Hm.out] at xc hy hno
      have u0 := kp.cell (xc 0 _ rfl) (fun h => h)
      have u1 := kp.cell (xc 1 _ rfl) (fun h => h)
      have u2 := kp.cell (xc 2 _ rfl) (fun h => h)
      have u3 := kp.cell (xc 3 _ rfl) (fun h => h)
      have u4 := kp.cell (xc 4 _ rfl) (fun h => h)
      have u5 := kp.cell (xc 5 _ rfl) (fun h => h)
      rw [Nat.add_zero] at u0
      obtain ⟨v', w', hrun, hO, hgr⟩ := app1 wr W0.heap.size _ (flt l z i) m ho hg.size (by rw [HK.out]; omega)
      have HG := hide hg
      have HO := hide hO
      have HGR := hide (hgr W0 hg (Nat.le_refl _))
      have HOO := hide ho
      clear xc Hm hil hi hO hgr hg kp ho
      by_cases hzq : z < m.q
      · have e := hy hzq
        have HE := hide e
        clear hy hno e
        go_upto_region 11 with fail
        go_wp2_with (at_builtin; refine wpList_app_at rfl (.tmp 42) (.tmp 50) 39 39 rfl _ _ rfl rfl hrun ?_)
        go_roundw
        case rel => exact ⟨i + 1, by omega, by go_num, by rw [HE.out]; exact HO.out, HGR.out⟩
        case measure => simp [intOf]; omega
      · have e := hno hzq
        have HE := hide e
        clear hy hno e
        go_wp2
        go_roundw
        case rel => exact ⟨i + 1, by omega, by go_num, by rw [HE.out]; exact HOO.out, HG.out⟩
        case measure => simp [intOf]; omega
    · have hii : ¬ (i : Int) < (N : Int) := by omega
      have ei : flt l z i = l.filter (fun m => decide (z < m.q)) := by unfold flt; rw [List.take_of_length_le (by rw [HN.out]; omega)]
      rw [ei, HFL.out] at ho
      have H2 := HH.out.keptN kp
      have f0 := H2.fz 0
      have HP := hide (HH.out.put (Kp.ofN hg _) ho.owo (fun k e => .inr (ho.lt k e).1))
      clear ei H2
      go_wp2
      go_ret
      exact ⟨rfl, Nq.from KK.out HP.out⟩

end Go.Proofs.Ytamgnpmkmlhadaa
