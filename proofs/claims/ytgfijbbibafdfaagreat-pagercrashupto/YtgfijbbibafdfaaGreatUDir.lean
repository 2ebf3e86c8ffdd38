/- Contracts, over the turned program: undo.mayBe and undo.Write at any list of numbers. Conditions: those that each theorem states. -/
import Derived.Test.YtgfijbbibafdfaaGreatUFill
import Derived.Test.YtgfijbbibafdfaaGreatUMap
namespace Go.Proofs.YtgfijbbibafdfaaGreat
open Go.RowKit
open Go.ChangeMaps (setBlock)
set_option linter.unusedVariables false

/-- Numbers that 64 bits hold. -/
def i64s (l : List Int) : Prop := ∀ z ∈ l, -9223372036854775808 ≤ z ∧ z < 9223372036854775808
/-- May they be a directory's? -/
def okP (l : List Int) : Bool := decide ((∀ z ∈ l, 0 ≤ z ∧ z < 65536) ∧ l.Nodup)
/-- What the map has counted behind the numbers l, which are unlike. -/
def cntF (l : List Int) : Int → Option Value := fun z => if z ∈ l then some (.int .i64 1) else none
theorem cnt_nil : (fun _ => none) = cntF [] := by funext z; simp [cntF]
theorem cnt_put (l : List Int) (z : Int) : putI (cntF l) z (.int .i64 1) = cntF (l ++ [z]) := by
  funext k
  unfold putI cntF
  by_cases h : k = z
  · subst h; simp
  · by_cases h2 : k ∈ l <;> simp [h, h2]
theorem zeroI (W : World) : (zeroValue 3).run Tryz.prog W = .ok (.int .i64 0) W := Tryz.zeroValue3 W
theorem u64_nat (p : Int) (h : -9223372036854775808 ≤ p ∧ p < 9223372036854775808) : ∃ U : Nat, IntKind.u64.wrap p = (U : Int) ∧ (U : Int) < 18446744073709551616 ∧ fitsB U 2 = decide (0 ≤ p ∧ p < 65536) ∧ (0 ≤ p → U = p.toNat) := by
  refine ⟨(p % 18446744073709551616).toNat, ?_, by omega, ?_, ?_⟩
  · rw [IntKind.wrap_u64]; omega
  · unfold fitsB
    rw [show 2 ^ (8 * wid 2) = 65536 from rfl, Bool.eq_iff_iff]
    simp only [decide_eq_true_eq]
    omega
  · intro h0; omega
theorem okP_snoc (l : List Int) (z : Int) : okP (l ++ [z]) = (okP l && (decide (0 ≤ z ∧ z < 65536) && !decide (z ∈ l))) := by
  unfold okP
  rw [Bool.eq_iff_iff]
  simp only [Bool.and_eq_true, decide_eq_true_eq, Bool.not_eq_true', decide_eq_false_iff_not, List.nodup_append, List.mem_append, List.mem_singleton]
  constructor
  · rintro ⟨h1, h2, _, h3⟩
    exact ⟨⟨fun x hx => h1 x (.inl hx), h2⟩, h1 z (.inr rfl), fun hm => h3 z hm z rfl rfl⟩
  · rintro ⟨⟨h1, h2⟩, h3, h4⟩
    refine ⟨fun x hx => ?_, h2, List.nodup_cons.2 ⟨by simp, List.nodup_nil⟩, fun a ha b hb => ?_⟩
    · rcases hx with hx | rfl
      · exact h1 x hx
      · exact h3
    · subst hb
      exact fun e => h4 (e ▸ ha)
theorem okP_take {l : List Int} (h : okP l = true) (k : Nat) : okP (l.take k) = true := by
  unfold okP at *
  simp only [decide_eq_true_eq] at *
  exact ⟨fun z hz => h.1 z (List.mem_of_mem_take hz), h.2.sublist (List.take_sublist k l)⟩
theorem okP_bad {l : List Int} {k : Nat} (hk : k < l.length) (h : okP (l.take k ++ [l[k]]) = false) : okP l = false := by
  cases he : okP l with
  | false => rfl
  | true =>
    have := okP_take he (k + 1)
    rw [List.take_succ_eq_append_getElem hk, h] at this
    cases this

set_option maxRecDepth 100000 in
set_option maxHeartbeats 800000 in
theorem mayBe_any (v : Value) (l : List Int) (B : Nat) (w : World) (hS : Sl (Value.int .i64) B w v l) (hl : l.length ≤ 255) (hr : i64s l) :
    Calls Tryz.prog 63 #[v] w fun e w' => e = .returned (.bool (okP l)) ∧ Kp none' w w' := by
  obtain ⟨a, c, rfl, _, _, ha⟩ := hS
  have hmm := @run_makeMap Tryz.prog
  have hka := Kp.alloc none' w (.map #[] 0)
  have hm0 : (w.alloc (.map #[] 0)).heap[w.heap.size]? = some (.map #[] 0) := heap_alloc_new w _
  obtain ⟨wa, Ha⟩ : ∃ wa, Hid (w.alloc (.map #[] 0) = wa) := ⟨_, rfl⟩
  rw [Ha.out] at hka hm0
  obtain ⟨g, HG⟩ : ∃ g, Hid (w.heap.size = g) := ⟨_, rfl⟩
  rw [HG.out] at hm0
  go_enter Tryz.func63, Tryz.ntmps63
  go_upto_region 2 with fail
  rw [Ha.out, HG.out]
  clear hmm
  go_wp2
  go_loopw [9] (fun t wr => ∃ (k : Nat) (es : Array MapEntry) (cl : Nat), k ≤ l.length ∧ t = .int .i64 k ∧ wr.heap[g]? = some (.map es cl) ∧ Mi (cntF (l.take k)) es.toList cl ∧ Hid (okP (l.take k) = true) ∧ Kp none' w wr) (fun t _ => l.length - (intOf t).toNat)
  case atStart => exact ⟨0, #[], 0, Nat.zero_le _, rfl, hm0, cnt_nil ▸ Mi.nil 0, by show _ = _; simp [okP], hka⟩
  case round =>
    obtain ⟨k, es, cl, hk, rfl, hm, hM, HO, hKr⟩ := hrel
    clear hm0 hka
    by_cases hlt : k < l.length
    · obtain ⟨b, off, rfl, _, hc⟩ := ha k hlt
      have hcc := hKr.cell hc (fun h => h)
      have hk' : (k : Int) < (l.length : Int) := by omega
      obtain ⟨U, hU, hU2, hU3, _⟩ := u64_nat l[k] (hr _ (List.getElem_mem hlt))
      have hlk := run_lookI (t := 112) (e := 3) Tryz.underlying112 zeroI hm hM l[k] false
      have HT : Hid (okP (l.take (k + 1)) = okP (l.take k ++ [l[k]])) := by show _ = _; rw [List.take_succ_eq_append_getElem hlt]
      have HB : Hid (okP (l.take k ++ [l[k]]) = false → okP l = false) := okP_bad hlt
      have hsn := okP_snoc (l.take k) l[k]
      rw [HO.out, Bool.true_and] at hsn
      obtain ⟨seen, HS⟩ : ∃ s, Hid (l.take k = s) := ⟨_, rfl⟩
      have HP : Hid (l.take (k + 1) = seen ++ [l[k]]) := by show _ = _; rw [List.take_succ_eq_append_getElem hlt, HS.out]
      rw [HS.out] at hlk hM hsn HB
      clear HT ha
      obtain ⟨p, hp⟩ : ∃ p, l[k] = p := ⟨_, rfl⟩
      rw [hp] at hcc hlk hsn hU hU3 HB HP
      by_cases hmem : p ∈ seen
      · have hc1 : cntF seen p = some (.int .i64 1) := by simp [cntF, hmem]
        obtain ⟨es', cl', hput, hM'⟩ := run_putI (t := 112) (e := 3) Tryz.underlying112 hm hM p (.int .i64 2)
        have hm' : (setBlock wr g (.map es' cl')).heap[g]? = some (.map es' cl') := by
          have := (Array.getElem?_eq_some_iff.1 hm).1
          unfold ChangeMaps.setBlock
          simp [this]
        have hlk2 := run_lookI (t := 112) (e := 3) Tryz.underlying112 zeroI hm' hM' p false
        simp only [hc1, putI, if_true, Option.getD_some, Bool.false_eq_true, if_false] at hlk hlk2
        have hkk : Kp none' w (setBlock wr g (.map es' cl')) := hKr.trans (Kp.setBlock (S := only g) wr g _ rfl) (fun _ _ h => h) (fun j hj h => absurd hj (by have := HG.out; unfold only at h; omega))
        have hbad : Hid (okP l = false) := HB.out (by rw [hsn]; simp [hmem])
        generalize hw2 : setBlock wr g (.map es' cl') = w2 at *
        cases hf : decide (0 ≤ p ∧ p < 65536)
        all_goals
          rw [hf] at hU3
          clear hsn hM hM' hm hm' hf hc1 hc
          go_wp2_with (go_at_call 72; refine (fits_any U 2 _ hU2).mono ?_; rintro e wx ⟨rfl, rfl⟩; rw [hU3])
          go_ret
          rw [hbad.out]
          exact ⟨rfl, hkk⟩
      · have hc1 : cntF seen p = none := by simp [cntF, hmem]
        obtain ⟨es', cl', hput, hM'⟩ := run_putI (t := 112) (e := 3) Tryz.underlying112 hm hM p (.int .i64 1)
        have hm' : (setBlock wr g (.map es' cl')).heap[g]? = some (.map es' cl') := by
          have := (Array.getElem?_eq_some_iff.1 hm).1
          unfold ChangeMaps.setBlock
          simp [this]
        have hlk2 := run_lookI (t := 112) (e := 3) Tryz.underlying112 zeroI hm' hM' p false
        rw [cnt_put] at hM'
        simp only [hc1, putI, if_true, Option.getD_some, Option.getD_none, Bool.false_eq_true, if_false] at hlk hlk2
        have hkk : Kp none' w (setBlock wr g (.map es' cl')) := hKr.trans (Kp.setBlock (S := only g) wr g _ rfl) (fun _ _ h => h) (fun j hj h => absurd hj (by have := HG.out; unfold only at h; omega))
        generalize hw2 : setBlock wr g (.map es' cl') = w2 at *
        cases hf : decide (0 ≤ p ∧ p < 65536)
        · have hbad : Hid (okP l = false) := HB.out (by rw [hsn, hf]; simp)
          rw [hf] at hU3
          clear hsn hM hM' hm hm' hf hc1 hc
          go_wp2_with (go_at_call 72; refine (fits_any U 2 _ hU2).mono ?_; rintro e wx ⟨rfl, rfl⟩; rw [hU3])
          go_ret
          rw [hbad.out]
          exact ⟨rfl, hkk⟩
        · have HO' : Hid (okP (l.take (k + 1)) = true) := by show _ = _; rw [HP.out, hsn, hf]; simp [hmem]
          rw [hf] at hU3
          rw [← HP.out] at hM'
          have HM : Hid (Mi (cntF (l.take (k + 1))) es'.toList cl') := hM'
          have HMM : Hid (w2.heap[g]? = some (.map es' cl')) := hm'
          clear hsn hM hM' hm hm' hf hc1 hc
          go_wp2_with (go_at_call 72; refine (fits_any U 2 _ hU2).mono ?_; rintro e wx ⟨rfl, rfl⟩; rw [hU3])
          go_roundw
          case rel => exact ⟨k + 1, es', cl', by omega, by go_num, HMM.out, HM.out, HO', hkk⟩
          case measure => simp [intOf]; omega
    · have HE : Hid (okP l = true) := by
        have := HO.out
        rw [List.take_of_length_le (by omega)] at this
        exact this
      go_wp2
      go_ret
      rw [HE.out]
      exact ⟨rfl, hKr⟩

end Go.Proofs.YtgfijbbibafdfaaGreat
