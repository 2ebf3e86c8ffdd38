/- Contract, over the turned program: the document's From of a box. Conditions: those that each theorem states. -/
import Derived.Test.YtamgnpmkmlhadaaOQx
namespace Go.Proofs.Ytamgnpmkmlhadaa
open Go Go.RowKit
set_option linter.unusedVariables false

def flt (l : List Ms) (z : Int) (i : Nat) : List Ms := (l.take i).filter (fun m => decide (z < m.q))
theorem flt_len (l : List Ms) (z : Int) (i : Nat) : (flt l z i).length ≤ l.length := Nat.le_trans (List.length_filter_le _ _) (by rw [List.length_take]; omega)
theorem flt_yes {l : List Ms} {z : Int} {i : Nat} (hi : i < l.length) (h : z < l[i].q) : flt l z (i + 1) = flt l z i ++ [l[i]] := by
  unfold flt
  rw [filter_snoc hi, if_pos h]
theorem flt_no {l : List Ms} {z : Int} {i : Nat} (hi : i < l.length) (h : ¬ z < l[i].q) : flt l z (i + 1) = flt l z i := by
  unfold flt
  rw [filter_snoc hi, if_neg h, List.append_nil]
theorem OwR.slc {w : World} {B : Nat} {v : Value} {l : List Ms} (h : OwM w B v l) : ∃ a c, v = .slice a l.length c := by
  rcases h.shape with ⟨rfl, rfl⟩ | ⟨r, c, rfl, _⟩
  · exact ⟨none, 0, rfl⟩
  · exact ⟨_, c, rfl⟩
/-- A message that is appended to a row of the call's own. -/
theorem app1 (wr : World) (B : Nat) (t : Value) (l : List Ms) (m : Ms) (hO : OwM wr B t l) (hB : B ≤ wr.heap.size) (hl : l.length ≤ 1000000) :
    ∃ v' w', (Builtin.append_ #[39, 39] 39 #[t, .slice (some ⟨wr.heap.size, 0, none⟩) 1 1]).run Try.prog (wr.alloc (.cells #[.int .i64 m.q, .int .i64 m.f, .int .i64 m.t, .int .i64 m.v.k, .int .i64 m.v.n, .string m.v.s] 26)) = .ok v' w' ∧ OwM w' B v' (l ++ [m]) ∧ ∀ w0 : World, w0.grownBy wr none → w0.heap.size ≤ B → w0.grownBy w' none := by
  have hga := World.grownBy_alloc wr (.cells #[.int .i64 m.q, .int .i64 m.f, .int .i64 m.t, .int .i64 m.v.k, .int .i64 m.v.n, .string m.v.s] 26) none
  obtain ⟨v', w', h1, h2, h3, h4⟩ := appM _ B t _ l [m] (hO.keptN hga) (rw_oneM m (Mb.new wr m)) (Nat.le_trans hB hga.size) (by simp; omega)
  exact ⟨v', w', h1, h2, fun w0 hg hb => grown_new (grown_up hg hga) h3 (fun j e => Nat.le_trans hb (hO.lt j e).1)⟩
set_option maxRecDepth 100000 in
set_option maxHeartbeats 4000000 in
theorem rfrom_any {q : Nat} {v : Value} {g : Option Nat} {a y : Int} {l : List Ms} (z n : Int) (w : World) (h : Qx w q v g a y l) (hl : l.length ≤ 1000) :
    Calls Try.prog 22 #[.pointer (some ⟨q, 0, none⟩), .int .i64 z, .int .i64 n] w fun e w' => CloneM w (fil l z n) e w' ∧ w.grownBy w' none := by
  have hc0 := h.c0
  obtain ⟨av, cv, rfl, hlc, hcm, hcell⟩ := h.ow.rw
  have HC := hide hcell
  have HF1 := hide (fun i => @fil_full l i z n)
  have HF2 := hide (@fil_end l z n)
  obtain ⟨FL, HFL⟩ : ∃ F, Hid (fil l z n = F) := ⟨_, rfl⟩
  obtain ⟨N, HN⟩ : ∃ N, Hid (l.length = N) := ⟨_, rfl⟩
  rw [HN.out] at hc0 hl
  rw [HFL.out]
  clear h hcell hlc hcm
  go_enter Try.func22, Try.ntmps22
  go_wp2
  go_loopw [7, 8] (fun t u wr => ∃ i : Nat, i ≤ N ∧ u = .int .i64 i ∧ OwM wr w.heap.size t (flt l z i) ∧ ((flt l z i).length : Int) ≤ max n 0 ∧ w.grownBy wr none) (fun _ u _ => N - (intOf u).toNat)
  case atStart => exact ⟨0, Nat.zero_le _, rfl, OwR.nil, by show ((0 : Nat) : Int) ≤ _; omega, World.grownBy.refl _ _⟩
  case round =>
    obtain ⟨i, hi, rfl, ho, hm, hg⟩ := hrel
    have kp := Kp.ofN hg none'
    have c0 := kp.cell hc0 (fun h => h)
    obtain ⟨aq, cq, rfl⟩ := ho.slc
    have hfl := flt_len l z i
    rw [HN.out] at hfl
    obtain ⟨K, HK⟩ : ∃ K, Hid ((flt l z i).length = K) := ⟨_, rfl⟩
    rw [HK.out] at ho hm hfl ⊢
    by_cases hlt : i < N
    · have hii : (i : Int) < (N : Int) := by omega
      by_cases hln : (K : Int) < n
      · have hil : i < l.length := by rw [HN.out]; exact hlt
        obtain ⟨b, off, eb, hbw, xc⟩ := HC.out i hil
        subst eb
        have hy := @flt_yes l z i hil
        have hno := @flt_no l z i hil
        obtain ⟨m, Hm⟩ : ∃ m, Hid (l[i] = m) := ⟨l[i], hide rfl⟩
        rw [Hm.out] at xc hy hno
        have u0 := kp.cell (xc 0 _ rfl) (fun h => h)
        have u1 := kp.cell (xc 1 _ rfl) (fun h => h)
        have u2 := kp.cell (xc 2 _ rfl) (fun h => h)
        have u3 := kp.cell (xc 3 _ rfl) (fun h => h)
        have u4 := kp.cell (xc 4 _ rfl) (fun h => h)
        have u5 := kp.cell (xc 5 _ rfl) (fun h => h)
        rw [Nat.add_zero] at u0
        obtain ⟨v', w', hrun, hO, hgr⟩ := app1 wr w.heap.size _ (flt l z i) m ho hg.size (by rw [HK.out]; omega)
        have HG := hide hg
        have HO := hide hO
        have HGR := hide (hgr w hg (Nat.le_refl _))
        have HOO := hide ho
        clear xc Hm hil hi hO hgr hg kp ho
        by_cases hz : z < m.q
        · have e := hy hz
          have e2 : ((flt l z (i + 1)).length : Int) ≤ max n 0 := by rw [e, List.length_append, HK.out]; simp; omega
          have HE := hide e
          clear hy hno e
          go_upto_region 6 with fail
          go_wp2_with (at_builtin; refine wpList_app_at rfl (.tmp 34) (.tmp 42) 39 39 rfl _ _ rfl rfl hrun ?_)
          go_roundw
          case rel => exact ⟨i + 1, by omega, by go_num, by rw [HE.out]; exact HO.out, e2, HGR.out⟩
          case measure => simp [intOf]; omega
        · have e := hno hz
          have HE := hide e
          clear hy hno e
          go_wp2
          go_roundw
          case rel => exact ⟨i + 1, by omega, by go_num, by rw [HE.out]; exact HOO.out, by rw [HE.out, HK.out]; exact hm, HG.out⟩
          case measure => simp [intOf]; omega
      · have e := HF1.out i (by show n ≤ ((flt l z i).length : Int); rw [HK.out]; omega) (by show ((flt l z i).length : Int) ≤ _; rw [HK.out]; exact hm)
        have HE : Hid (flt l z i = FL) := by rw [← HFL.out]; exact e
        rw [HE.out] at ho
        clear e
        go_wp2
        go_ret
        exact ⟨⟨_, rfl, ho⟩, hg⟩
    · have hii : ¬ (i : Int) < (N : Int) := by omega
      have ei : flt l z i = l.filter (fun m => decide (z < m.q)) := by unfold flt; rw [List.take_of_length_le (by rw [HN.out]; omega)]
      have e := HF2.out (by rw [← ei, HK.out]; exact hm)
      have HE : Hid (flt l z i = FL) := by rw [ei, ← HFL.out]; exact e
      rw [HE.out] at ho
      clear e ei
      go_wp2
      go_ret
      exact ⟨⟨_, rfl, ho⟩, hg⟩

end Go.Proofs.Ytamgnpmkmlhadaa
