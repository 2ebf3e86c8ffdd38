/- Plain facts on directories: what is written is read again; where it is read, it was read well. No conditions but those that each states. -/
import Derived.Test.YtgfijbbibafdfaaGreatURead
import Derived.Test.YtgfijbbibafdfaaGreatMath
namespace Go.Proofs.YtgfijbbibafdfaaGreat
open Go

theorem wE_ok {l : List Int} (h : wE l = 0) : l.length ≤ 31 ∧ okP l = true := by
  unfold wE at h
  split at h
  · cases h
  · split at h
    · rename_i h1 h2; exact ⟨by omega, h2⟩
    · cases h
theorem wB_len (l : List Int) : (wB l).length ≤ 64 := by
  unfold wB
  split
  · rw [whole_len]; omega
  · simp
theorem wB_ok {l : List Int} (h : wE l = 0) : wB l = encP l ++ noughts.drop (encP l).length := by
  unfold wB
  rw [if_pos h]
  exact whole_short _ (by rw [encP_len]; have := (wE_ok h).1; omega)
theorem rd_pages : ∀ (l : List Int) (z : List UInt8), (∀ x ∈ l, 0 ≤ x ∧ x < 65536) → rdN l.length (mkB (pagesB l ++ z)) 0 = l
  | [], _, _ => rfl
  | x :: l, z, h => by
    have hx := h x (by simp)
    have e : pagesB (x :: l) ++ z = be x.toNat 2 ++ (pagesB l ++ z) := by simp [pagesB]
    have hr := raw_app (be x.toNat 2) (pagesB l ++ z)
    rw [be_len] at hr
    obtain ⟨h1, h2, h3⟩ := hr
    have h1' : rawR (mkB (be x.toNat 2 ++ (pagesB l ++ z))) 0 2 = mkB (be x.toNat 2) := h1
    have h2' : rawS (mkB (be x.toNat 2 ++ (pagesB l ++ z))) 0 2 = mkB (pagesB l ++ z) := h2
    have h3' : rawE (mkB (be x.toNat 2 ++ (pagesB l ++ z))) 0 2 = 0 := h3
    rw [List.length_cons, rdN, e, h1', h2', h3', rd_pages l z (fun y hy => h y (by simp [hy])), mkB_list, val_be]
    congr 1
    have : x.toNat % 2 ^ (8 * 2) = x.toNat := Nat.mod_eq_of_lt (by omega)
    rw [this]
    omega
theorem back_pgs {l : List Int} (h : wE l = 0) : pgs ⟨(wB l).toArray⟩ = l := by
  have ho := wE_ok h
  show pgs (mkB (wB l)) = l
  rw [wB_ok h]
  generalize noughts.drop (encP l).length = z
  unfold encP
  rw [List.append_assoc]
  have hr := raw_app (be l.length 1) (pagesB l ++ z)
  rw [be_len] at hr
  obtain ⟨h1, h2, h3⟩ := hr
  have h1' : rawR (mkB (be l.length 1 ++ (pagesB l ++ z))) 0 1 = mkB (be l.length 1) := h1
  have h2' : rawS (mkB (be l.length 1 ++ (pagesB l ++ z))) 0 1 = mkB (pagesB l ++ z) := h2
  have h3' : rawE (mkB (be l.length 1 ++ (pagesB l ++ z))) 0 1 = 0 := h3
  unfold pgs cnt
  rw [h1', h2', h3', mkB_list, val_be]
  have e : l.length % 2 ^ (8 * 1) = l.length := Nat.mod_eq_of_lt (by omega)
  rw [e]
  have hp := ho.2
  unfold okP at hp
  simp only [decide_eq_true_eq] at hp
  exact rd_pages l z hp.1
theorem back_read {l : List Int} (h : wE l = 0) : rE ⟨(wB l).toArray⟩ = 0 ∧ rL ⟨(wB l).toArray⟩ = l := by
  have hp := back_pgs h
  have ho : rOk ⟨(wB l).toArray⟩ = true := by unfold rOk; rw [hp]; simp [h]
  exact ⟨by simp [rE, ho], by simp [rL, ho, hp]⟩
theorem read_ok {s : ByteArray} (h : rE s = 0) : wE (rL s) = 0 ∧ wB (rL s) = s.data.toList ∧ rL s = pgs s := by
  have ho : rOk s = true := by
    cases e : rOk s with
    | true => rfl
    | false => unfold rE at h; rw [e] at h; cases h
  have hl : rL s = pgs s := by simp [rL, ho]
  unfold rOk at ho
  simp only [decide_eq_true_eq] at ho
  rw [hl]
  exact ⟨ho.1, ho.2, rfl⟩
theorem rE_bad {s : ByteArray} (h : rE s ≠ 0) : rE s = 10 ∧ rL s = [] := by
  have ho : rOk s = false := by
    cases e : rOk s with
    | false => rfl
    | true => exact absurd (by simp [rE, e]) h
  exact ⟨by simp [rE, ho], by simp [rL, ho]⟩
theorem rL_i64 (s : ByteArray) : i64s (rL s) := by
  unfold rL
  split
  · exact pgs_i64 s
  · intro z hz; simp at hz
theorem rL_len (s : ByteArray) : (rL s).length ≤ 255 := by
  unfold rL
  split
  · rw [pgs_len]; have := cnt_lt s; omega
  · simp
/-- Enough bytes are read without an error. -/
theorem rdE_ok : ∀ (n : Nat) (s : ByteArray), 2 * n ≤ s.size → rdE n s 0 = 0
  | 0, _, _ => rfl
  | n + 1, s, h => by
    have h1 : rawE s 0 2 = 0 := by unfold rawE; simp; omega
    have h2 : (rawS s 0 2).size = s.size - 2 := by
      unfold rawS
      rw [if_neg (by omega), ByteArray.size_extract]
      show min s.size s.size - 2 = _
      omega
    rw [rdE, h1]
    exact rdE_ok n _ (by omega)
theorem rdE_stays : ∀ (n : Nat) (s : ByteArray) (e : Int), e ≠ 0 → rdE n s e = e
  | 0, _, _, _ => rfl
  | n + 1, s, e, h => by
    have h1 : rawE s e 2 = e := by unfold rawE; simp [h]
    rw [rdE, h1]
    exact rdE_stays n _ e h
theorem ok_well {s : ByteArray} (h : rOk s = true) : rdE (cnt s) (rawS s 0 1) (rawE s 0 1) = 0 := by
  unfold rOk at h
  simp only [decide_eq_true_eq] at h
  have hl := (wE_ok h.1).1
  rw [pgs_len] at hl
  have hs : s.size = 64 := by
    have h2 := congrArg List.length h.2
    unfold wB at h2
    rw [if_pos h.1, whole_len, Array.length_toList] at h2
    exact h2.symm
  have h1 : rawE s 0 1 = 0 := by unfold rawE; simp; omega
  have h2 : (rawS s 0 1).size = s.size - 1 := by
    unfold rawS
    rw [if_neg (by omega), ByteArray.size_extract]
    show min s.size s.size - 1 = _
    omega
  rw [h1]
  exact rdE_ok _ _ (by omega)

end Go.Proofs.YtgfijbbibafdfaaGreat
