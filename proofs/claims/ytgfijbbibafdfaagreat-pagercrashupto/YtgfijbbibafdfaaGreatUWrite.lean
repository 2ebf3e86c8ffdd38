/- Contracts, over the turned program: undo.Write at any list of numbers. Conditions: those that each theorem states. -/
import Derived.Test.YtgfijbbibafdfaaGreatUDir
namespace Go.Proofs.YtgfijbbibafdfaaGreat
open Go.RowKit
open Go.ChangeMaps (setBlock)
set_option linter.unusedVariables false

/-- Pages as bytes, a directory's bytes, the error, the sector that Write answers. -/
def pagesB (l : List Int) : List UInt8 := l.flatMap fun z => be z.toNat 2
def encP (l : List Int) : List UInt8 := be l.length 1 ++ pagesB l
def wE (l : List Int) : Int := if 31 < l.length then 3 else if okP l then 0 else 1
def wB (l : List Int) : List UInt8 := if wE l = 0 then whole (encP l) else []
theorem pagesB_len (l : List Int) : (pagesB l).length = 2 * l.length := by
  unfold pagesB
  rw [List.length_flatMap]
  simp [be_len]
  induction l with
  | nil => rfl
  | cons z l ih => simp; omega
theorem pagesB_snoc (l : List Int) (z : Int) : pagesB (l ++ [z]) = pagesB l ++ be z.toNat 2 := by simp [pagesB]
theorem pagesB_take (l : List Int) (k : Nat) (h : k < l.length) : pagesB (l.take (k + 1)) = pagesB (l.take k) ++ be l[k].toNat 2 := by
  rw [List.take_succ_eq_append_getElem h, pagesB_snoc]
theorem encP_len (l : List Int) : (encP l).length = 1 + 2 * l.length := by simp [encP, be_len, pagesB_len]
theorem okP_at {l : List Int} (h : okP l = true) (k : Nat) (hk : k < l.length) : ∃ q : Nat, l[k] = (q : Int) ∧ q < 65536 := by
  unfold okP at h
  simp only [decide_eq_true_eq] at h
  have := h.1 _ (List.getElem_mem hk)
  exact ⟨l[k].toNat, by omega, by omega⟩
/-- Own bytes that have grown: what was there ahead of them has not turned. -/
theorem Fr.kp {w0 w w' : World} {v v' : Value} {l : List UInt8} {e : TypeId} (h : Fr w v w' v') (ho : Own e w w0.heap.size v l) (hk : Kp none' w0 w) : Kp none' w0 w' :=
  hk.trans (Kp.ofGrown h.1 (S := fun k => v.ownBlock = some k) (fun k he _ => he)) (fun _ _ h => h) (fun k hk he => absurd hk (by have := (ho.lt k he).1; omega))

set_option maxRecDepth 100000 in
set_option maxHeartbeats 800000 in
theorem uwrite_any (v : Value) (l : List Int) (B : Nat) (w : World) (hS : Sl (Value.int .i64) B w v l) (hr : i64s l) :
    Calls Tryz.prog 50 #[v] w fun e w' => e = .returned (.tuple #[.string ⟨(wB l).toArray⟩, .int .i64 (wE l)]) ∧ Kp none' w w' := by
  have hS' := hS
  obtain ⟨a, c, rfl, hlc, hcm, ha⟩ := hS'
  unfold maxLen at hcm
  by_cases hl : 31 < l.length
  · have hE : wE l = 3 := by simp [wE, hl]
    have hB : wB l = [] := by simp [wB, hE]
    rw [hE, hB]
    have hli : 31 < (l.length : Int) := by omega
    clear ha hS hE hB
    go_enter Tryz.func50, Tryz.ntmps50
    go_wp2
    go_ret2
    exact ⟨rfl, Kp.refl _ _⟩
  · have hli : ¬ 31 < (l.length : Int) := by omega
    by_cases hO : okP l = true
    · have hE : wE l = 0 := by simp [wE, hl, hO]
      have hB : wB l = whole (encP l) := by simp [wB, hE]
      rw [hE, hB]
      clear hE hB
      have hl255 : (l.length : Int) < 18446744073709551616 := by omega
      go_enter Tryz.func50, Tryz.ntmps50
      go_upto_region 6 with (first
        | (go_at_call 63; refine (mayBe_any _ l B _ hS (by omega) hr).mono ?_; rintro e wb ⟨rfl, hkb⟩; rw [hO])
        | (go_at_call 64; refine (num_any (.slice none 0 0) [] l.length 1 w.heap.size _ hl255 (Own.nil _ _ _) hkb.size (by simp)).mono ?_; rintro e wc ⟨vc, rfl, hOc, hFc⟩)
        | fail)
      have hkc : Kp none' w wc := hFc.kp (Own.nil 5 wb w.heap.size) hkb
      rw [show [] ++ be l.length (wid 1) = be l.length 1 from rfl] at hOc
      clear hkb hFc
      go_wp2
      go_loopw [4, 19] (fun b t wr => ∃ k : Nat, k ≤ l.length ∧ t = .int .i64 k ∧ Own 5 wr w.heap.size b (be l.length 1 ++ pagesB (l.take k)) ∧ Kp none' w wr) (fun _ t _ => l.length - (intOf t).toNat)
      case atStart => exact ⟨0, Nat.zero_le _, rfl, by simpa [pagesB] using hOc, hkc⟩
      case round =>
        obtain ⟨k, hk, rfl, hOr, hKr⟩ := hrel
        clear hOc hkc
        by_cases hlt : k < l.length
        · obtain ⟨b, off, rfl, _, hc⟩ := ha k hlt
          have hcc := hKr.cell hc (fun h => h)
          obtain ⟨q, hq, hq6⟩ := okP_at hO k hlt
          have HT : Hid ((be l.length 1 ++ pagesB (l.take k)) ++ be q (wid 2) = be l.length 1 ++ pagesB (l.take (k + 1))) := by
            show _ = _
            rw [pagesB_take l k hlt, hq, List.append_assoc]
            rfl
          have hln : (be l.length 1 ++ pagesB (l.take k)).length ≤ 140737488355300 := by rw [List.length_append, be_len, pagesB_len, List.length_take]; omega
          rw [hq] at hcc
          have hk' : (k : Int) < (l.length : Int) := by omega
          have hq1 : (q : Int) < 65536 := by omega
          have hq2 : (q : Int) < 18446744073709551616 := by omega
          clear ha hc
          go_wp2_with (go_at_call 64; refine (num_any _ _ q 2 w.heap.size _ hq2 hOr hKr.size hln).mono ?_; rintro e wd ⟨vd, rfl, hOd, hFd⟩)
          go_roundw
          case rel => exact ⟨k + 1, by omega, by go_num, HT.out ▸ hOd, hFd.kp hOr hKr⟩
          case measure => simp [intOf]; omega
        · have HT : Hid (be l.length 1 ++ pagesB (l.take k) = encP l) := by
            show _ = _
            rw [List.take_of_length_le (by omega)]
            rfl
          go_wp2_with (go_at_call 55; refine (filled_any _ _ _ _ hOr).mono ?_; rintro e wd ⟨rfl, hkd⟩)
          go_ret2
          rw [HT.out]
          exact ⟨rfl, hKr.then hkd⟩
    · have hO' : okP l = false := by simpa using hO
      have hE : wE l = 1 := by simp [wE, hl, hO']
      have hB : wB l = [] := by simp [wB, hE]
      rw [hE, hB]
      clear ha hE hB
      go_enter Tryz.func50, Tryz.ntmps50
      go_wp2_with (go_at_call 63; refine (mayBe_any _ l B _ hS (by omega) hr).mono ?_; rintro e wb ⟨rfl, hkb⟩; rw [hO'])
      go_ret2
      exact ⟨rfl, hkb⟩

end Go.Proofs.YtgfijbbibafdfaaGreat
