/- Contract, over the turned program: the first messages above a number. Conditions: those that the theorem states. -/
import Derived.Test.YtamgnpmkmlhadaaOBox
namespace Go.Proofs.Ytamgnpmkmlhadaa
open Go Go.RowKit
set_option linter.unusedVariables false

set_option maxRecDepth 100000 in
set_option maxHeartbeats 4000000 in
theorem ofrom_any {p : Nat} {v : Value} {g : Option Nat} {a : Nat} {l : List Ms} (z n : Int) (w : World) (h : Bx w p v g a l) (hz : ir z) (hn : ir n) :
    Calls Try.prog 21 #[.pointer (some ⟨p, 0, none⟩), .int .i64 z, .int .i64 n] w fun e w' => CloneM w (frm a l z n) e w' ∧ w.grownBy w' none := by
  have hm := hide (omark_any w h)
  have hl := hide (olen_any w h)
  have hs := h.sm
  have c1 := h.c1
  have hrw := h.ow.rw
  have hsh := h.ow
  unfold ir at hz hn
  clear h
  obtain ⟨k, hk⟩ : ∃ k : Nat, max z (a : Int) - (a : Int) = (k : Int) := ⟨(max z (a : Int) - (a : Int)).toNat, by omega⟩
  obtain ⟨R, HR⟩ : ∃ R, Hid (frm a l z n = R) := ⟨_, rfl⟩
  rw [HR.out]
  have HF : Hid (R = (l.drop k).take n.toNat) := by
    show _ = _
    rw [← HR.out]
    unfold frm
    rw [hk]
    rfl
  have HZ : Hid ((l.length : Int) ≤ (k : Int) ∨ n < 1 → R = []) := fun hh => by
    rw [← HR.out]
    exact frm_none (by rw [hk]; exact hh)
  have hlk : (l.length : Int) ≤ 1000 := by omega
  have hak : (a : Int) ≤ 1000 := by omega
  clear HR hs
  by_cases hza : (a : Int) ≤ z
  · obtain rfl : z = (a : Int) + (k : Int) := by omega
    clear hk
    by_cases h1 : l.length ≤ k
    · have h1' : (l.length : Int) ≤ (k : Int) := by omega
      have e := HZ.out (.inl h1')
      subst e
      clear h1 HF HZ hsh hrw c1
      go_enter Try.func21, Try.ntmps21
      go_wp2_with (first
        | (go_at_call 23; refine hm.out.mono ?_; rintro e w1 ⟨rfl, rfl⟩)
        | (go_at_call 25; refine hl.out.mono ?_; rintro e w1 ⟨rfl, rfl⟩))
      go_ret
      exact ⟨⟨_, rfl, OwR.nil⟩, World.grownBy.refl _ _⟩
    · have h1' : ¬ (l.length : Int) ≤ (k : Int) := by omega
      by_cases h2 : n < 1
      · have e := HZ.out (.inr h2)
        subst e
        clear h1 HF HZ hsh hrw c1
        go_enter Try.func21, Try.ntmps21
        go_wp2_with (first
          | (go_at_call 23; refine hm.out.mono ?_; rintro e w1 ⟨rfl, rfl⟩)
          | (go_at_call 25; refine hl.out.mono ?_; rintro e w1 ⟨rfl, rfl⟩))
        go_ret
        exact ⟨⟨_, rfl, OwR.nil⟩, World.grownBy.refl _ _⟩
      · rcases hsh with ⟨rfl, rfl, _⟩ | ⟨b, off, cap, rfl, rfl, hb, hlc, hcm, _, _⟩
        · simp at h1
        · have hlt : k < l.length := by omega
          have hD := hrw.dropM k (by omega)
          have e1 : (some (⟨b, off, none⟩ : Addr)).map (fun x => x.add (k * 6)) = some ⟨b, off + k * 6, none⟩ := by simp [addr_plainO]
          rw [e1] at hD
          obtain ⟨N, rfl⟩ : ∃ N : Nat, n = (N : Int) := ⟨n.toNat, by omega⟩
          have HFN : Hid (R = (l.drop k).take N) := HF.out
          have hlc' : (l.length : Int) ≤ (cap : Int) := by omega
          have hkl : (k : Int) ≤ (l.length : Int) := by omega
          have hkc : (k : Int) ≤ (cap : Int) := by omega
          unfold maxLen at hcm
          clear HZ HF hrw
          by_cases h3 : N ≤ l.length - k
          · have h3' : (N : Int) ≤ (l.length : Int) - (k : Int) := by omega
            have hD2 := hD
            rw [← List.length_drop] at hD2
            have hT := hD2.take N (by rw [List.length_drop]; exact h3)
            have eT : (List.take N (l.drop k)).length = N := by rw [List.length_take, List.length_drop]; omega
            rw [← HFN.out] at hT eT
            have hcl := hide (oclone_any b (off + k * 6) (cap - k) R w (by rw [eT]; exact hT) (by omega))
            rw [eT] at hcl
            clear hD hD2 hT eT HFN
            go_enter Try.func21, Try.ntmps21
            go_wp2_with (first
              | (go_at_call 23; refine hm.out.mono ?_; rintro e w1 ⟨rfl, rfl⟩)
              | (go_at_call 25; refine hl.out.mono ?_; rintro e w1 ⟨rfl, rfl⟩)
              | (go_at_call 39; refine hcl.out.mono ?_; rintro e w1 ⟨⟨u, rfl, ho⟩, hg⟩))
            go_ret
            exact ⟨⟨_, rfl, ho⟩, hg⟩
          · have h3' : ¬ (N : Int) ≤ (l.length : Int) - (k : Int) := by omega
            have eR : R = l.drop k := by rw [HFN.out]; exact List.take_of_length_le (by rw [List.length_drop]; omega)
            have eT : R.length = l.length - k := by rw [eR, List.length_drop]
            have hcl := hide (oclone_any b (off + k * 6) (cap - k) R w (by rw [eT, eR]; exact hD) (by omega))
            rw [eT] at hcl
            clear hD eT HFN eR
            go_enter Try.func21, Try.ntmps21
            go_wp2_with (first
              | (go_at_call 23; refine hm.out.mono ?_; rintro e w1 ⟨rfl, rfl⟩)
              | (go_at_call 25; refine hl.out.mono ?_; rintro e w1 ⟨rfl, rfl⟩)
              | (go_at_call 39; refine hcl.out.mono ?_; rintro e w1 ⟨⟨u, rfl, ho⟩, hg⟩))
            go_ret
            exact ⟨⟨_, rfl, ho⟩, hg⟩
  · have hzb : ¬ (a : Int) ≤ z := hza
    obtain rfl : k = 0 := by omega
    clear hk hza
    by_cases h1 : l.length ≤ 0
    · have h1' : (l.length : Int) ≤ (0 : Int) := by omega
      have e := HZ.out (.inl h1')
      subst e
      obtain rfl : l = [] := List.eq_nil_of_length_eq_zero (by omega)
      clear h1 HF HZ hsh hrw c1
      go_enter Try.func21, Try.ntmps21
      go_wp2_with (first
        | (go_at_call 23; refine hm.out.mono ?_; rintro e w1 ⟨rfl, rfl⟩)
        | (go_at_call 25; refine hl.out.mono ?_; rintro e w1 ⟨rfl, rfl⟩))
      go_ret
      exact ⟨⟨_, rfl, OwR.nil⟩, World.grownBy.refl _ _⟩
    · have h1' : ¬ (l.length : Int) ≤ (0 : Int) := by omega
      have hne : ¬ l = [] := fun e => h1 (by rw [e]; exact Nat.le_refl _)
      by_cases h2 : n < 1
      · have e := HZ.out (.inr h2)
        subst e
        clear h1 HF HZ hsh hrw c1
        go_enter Try.func21, Try.ntmps21
        go_wp2_with (first
          | (go_at_call 23; refine hm.out.mono ?_; rintro e w1 ⟨rfl, rfl⟩)
          | (go_at_call 25; refine hl.out.mono ?_; rintro e w1 ⟨rfl, rfl⟩))
        go_ret
        exact ⟨⟨_, rfl, OwR.nil⟩, World.grownBy.refl _ _⟩
      · rcases hsh with ⟨rfl, rfl, _⟩ | ⟨b, off, cap, rfl, rfl, hb, hlc, hcm, _, _⟩
        · simp at h1
        · have hlt : 0 < l.length := by omega
          have hD := hrw.dropM 0 (by omega)
          have e1 : (some (⟨b, off, none⟩ : Addr)).map (fun x => x.add (0 * 6)) = some ⟨b, off + 0 * 6, none⟩ := by simp [addr_plainO]
          rw [e1] at hD
          obtain ⟨N, rfl⟩ : ∃ N : Nat, n = (N : Int) := ⟨n.toNat, by omega⟩
          have HFN : Hid (R = (l.drop 0).take N) := HF.out
          have hlc' : (l.length : Int) ≤ (cap : Int) := by omega
          have hkl : (0 : Int) ≤ (l.length : Int) := by omega
          have hkc : (0 : Int) ≤ (cap : Int) := by omega
          unfold maxLen at hcm
          clear HZ HF hrw
          by_cases h3 : N ≤ l.length - 0
          · have h3' : (N : Int) ≤ (l.length : Int) - (0 : Int) := by omega
            have hD2 := hD
            rw [← List.length_drop] at hD2
            have hT := hD2.take N (by rw [List.length_drop]; exact h3)
            have eT : (List.take N (l.drop 0)).length = N := by rw [List.length_take, List.length_drop]; omega
            rw [← HFN.out] at hT eT
            have hcl := hide (oclone_any b (off + 0 * 6) (cap - 0) R w (by rw [eT]; exact hT) (by omega))
            rw [eT] at hcl
            clear hD hD2 hT eT HFN
            go_enter Try.func21, Try.ntmps21
            go_wp2_with (first
              | (go_at_call 23; refine hm.out.mono ?_; rintro e w1 ⟨rfl, rfl⟩)
              | (go_at_call 25; refine hl.out.mono ?_; rintro e w1 ⟨rfl, rfl⟩)
              | (go_at_call 39; refine hcl.out.mono ?_; rintro e w1 ⟨⟨u, rfl, ho⟩, hg⟩))
            go_ret
            exact ⟨⟨_, rfl, ho⟩, hg⟩
          · have h3' : ¬ (N : Int) ≤ (l.length : Int) - (0 : Int) := by omega
            have eR : R = l.drop 0 := by rw [HFN.out]; exact List.take_of_length_le (by rw [List.length_drop]; omega)
            have eT : R.length = l.length - 0 := by rw [eR, List.length_drop]
            have hcl := hide (oclone_any b (off + 0 * 6) (cap - 0) R w (by rw [eT, eR]; exact hD) (by omega))
            rw [eT] at hcl
            clear hD eT HFN eR
            go_enter Try.func21, Try.ntmps21
            go_wp2_with (first
              | (go_at_call 23; refine hm.out.mono ?_; rintro e w1 ⟨rfl, rfl⟩)
              | (go_at_call 25; refine hl.out.mono ?_; rintro e w1 ⟨rfl, rfl⟩)
              | (go_at_call 39; refine hcl.out.mono ?_; rintro e w1 ⟨⟨u, rfl, ho⟩, hg⟩))
            go_ret
            exact ⟨⟨_, rfl, ho⟩, hg⟩

end Go.Proofs.Ytamgnpmkmlhadaa
