/- What a pager's calls make of its pages: plain mathematics on top of the contracts' words. Conditions: those that each theorem states. -/
import Derived.Test.YtgfijbbibafdfaaGreatPCommit
import Derived.Test.YtgfijbbibafdfaaGreatPRead
import Derived.Test.YtgfijbbibafdfaaGreatPLaw
namespace Go.Proofs.YtgfijbbibafdfaaGreat
open Go.RowKit
set_option linter.unusedVariables false

theorem clean_look {n : Nat} {D : Dv} {Q : Nat → ByteArray} (hu : ∀ k, D.u k = none) (hC : Clean n D.s Q) (hQ : ∀ p, (Q p).size = 256) (p : Nat) (hp : p < n) : lookS D (placeN p) = Q p :=
  look_page (hQ p) (fun j hj => by rw [at_none hu]; exact hC.2 p hp j hj)
theorem clean_old {n : Nat} {D : Dv} {Q : Nat → ByteArray} {l : List Chg} (hu : ∀ k, D.u k = none) (hC : Clean n D.s Q) (hQ : ∀ p, (Q p).size = 256) (h : okC n l) : oldD D l = oldC Q l := by
  unfold oldD oldC
  refine List.map_congr_left (fun c hc => ?_)
  have := h.p c hc
  rw [clean_look hu hC hQ c.page.toNat (by omega)]
theorem clean_back {n : Nat} {D : Dv} {Q : Nat → ByteArray} (hu : ∀ k, D.u k = none) (hC : Clean n D.s Q) : D.back n = D ∧ D.backE n = 0 := by
  have h : says (D.at 0) = false := by rw [at_none hu]; exact hC.1
  constructor
  · unfold Dv.back
    rw [if_neg (by rw [h]; simp)]
  · unfold Dv.backE
    rw [if_neg (by rw [h]; simp)]
theorem rec_back {n : Nat} {D : Dv} {Q : Nat → ByteArray} (hn : D.n = 126 + 4 * n) (hu : ∀ k, D.u k = none) (hR : Rec n D.s Q) (hQ : ∀ p, (Q p).size = 256) :
    (D.backE n = 0 → Clean n (D.back n).s Q ∧ ∀ k, (D.back n).u k = none) ∧ (D.backE n ≠ 0 → D.backE n = 9 ∧ ∀ S, After (D.back n) S → Rec n S Q) ∧ (D.st = false → D.backE n = 0) := by
  rcases hR with hC | ⟨hy, L, hU⟩
  · obtain ⟨h1, h2⟩ := clean_back hu hC
    rw [h1, h2]
    exact ⟨fun _ => ⟨hC, hu⟩, fun h => absurd rfl h, fun _ => rfl⟩
  · have hy' : says (D.at 0) = true := by rw [at_none hu]; exact hy
    have he : dirE (D.at 1) = 0 := by rw [at_none hu]; exact hU.e
    have hl : dirL (D.at 1) = L := by rw [at_none hu]; exact hU.l
    have ha : allB n (dirL (D.at 1)) = true := by
      rw [hl]
      unfold allB
      rw [List.all_eq_true]
      intro z hz
      have := hU.r z hz
      simp [hasB]
      omega
    have hi : imgD D (dirL (D.at 1)) = imgC Q L := by
      rw [hl]
      refine List.ext_getElem (by rw [imgD_len]; simp [imgC]) fun k h1 h2 => ?_
      have hk : k < L.length := by rw [imgD_len] at h1; exact h1
      rw [imgD_at D L k hk]
      have e : lookS D (imageN k) = Q L[k].toNat := look_page (hQ _) (fun j hj => by rw [at_none hu]; exact hU.i k hk j hj)
      rw [e]
      simp [imgC]
    have hB : D.back n = D.go (stW (imgC Q L)) := by unfold Dv.back; rw [if_pos ⟨hy', he, ha⟩, hi]
    have hE : D.backE n = D.goE (stW (imgC Q L)) := by unfold Dv.backE; rw [if_pos hy', if_pos ⟨he, ha⟩, hi]
    obtain ⟨a, b⟩ := recover_pure n D Q L hn hu hy hU hQ
    rw [hB, hE]
    refine ⟨a, fun h => ⟨(goE_or _ D).resolve_left h, b h⟩, fun h => goE_free _ D h⟩
theorem back_n (D : Dv) (n : Nat) : (D.back n).n = D.n ∧ D.c ≤ (D.back n).c ∧ (D.back n).st = D.st := by
  unfold Dv.back
  split
  · have := go_n (stW (imgD D (dirL (D.at 1)))) D
    exact ⟨this.1, this.2.2.2.1, this.2.1⟩
  · exact ⟨rfl, Int.le_refl _, rfl⟩
theorem back_c {D : Dv} (n : Nat) : (D.back n).c ≤ D.c + 1100 := by
  unfold Dv.back
  split
  · rename_i h
    have h1 := (go_n (stW (imgD D (dirL (D.at 1)))) D).2.2.2.2
    have h2 := stW_len (imgD D (dirL (D.at 1)))
    have h3 := imgD_len D (dirL (D.at 1))
    have h4 : (dirL (D.at 1)).length ≤ 255 := rL_len _
    omega
  · omega
theorem fresh_clean (n N : Nat) : Clean n (fresh N).s (fun _ => fillB 0) := by
  refine ⟨by kernel_rfl, fun p hp j hj => ?_⟩
  show noughts = secL (fillB 0) j
  rw [secL_list]
  show noughts = ((List.replicate 256 (0 : UInt8)).drop (j * 64)).take 64
  rw [List.drop_replicate, List.take_replicate]
  unfold noughts
  congr 1
  omega
/-- What a pager that kept the pages of a commit tells. -/
theorem rdP_old {n : Nat} {D D' : Dv} {Q : Nat → ByteArray} {l : List Chg} (hu : ∀ k, D.u k = none) (hC : Clean n D.s Q) (hQ : ∀ p, (Q p).size = 256) (h : okC n l) (hD' : D' = D.go (cmW (oldC Q l) l)) (p : Nat) (hp : p < n) : rdP D' (oldC Q l) p = Q p := by
  unfold rdP
  cases hf : (oldC Q l).find? (fun c => c.page == (p : Int)) with
  | some c =>
    have h1 := List.find?_some hf
    have h2 := List.mem_of_find?_eq_some hf
    obtain ⟨d, hd, rfl⟩ := List.mem_map.1 h2
    simp at h1
    simp [h1]
  | none =>
    have hno : ∀ c ∈ l, c.page ≠ (p : Int) := fun c hc he => by
      rw [List.find?_eq_none] at hf
      have := hf ⟨c.page, Q c.page.toNat⟩ (by unfold oldC; exact List.mem_map_of_mem (f := fun c : Chg => (⟨c.page, Q c.page.toNat⟩ : Chg)) hc)
      simp [he] at this
    refine look_page (hQ p) (fun j hj => ?_)
    rw [hD', go_at_out, at_none hu]
    · exact hC.2 p hp j hj
    · intro x hx
      unfold cmW stW jrW at hx
      simp only [List.mem_append, List.mem_cons, List.not_mem_nil, or_false, List.cons_append, List.nil_append] at hx
      have hm := h.m
      have hol : (oldC Q l).length = l.length := by simp [oldC]
      have himg : Stp.wr (placeN p j) x ∉ imW 0 (oldC Q l) := fun hx => by
        obtain ⟨k, hk, j', hj', e, _⟩ := (mem_imW _ 0 _ _).1 hx
        unfold placeN imageN at e
        omega
      have hpl : Stp.wr (placeN p j) x ∉ plW l := fun hx => by
        obtain ⟨c, hc, j', hj', e, _⟩ := mem_plW.1 hx
        unfold placeN at e
        have := (h.p c hc).1
        exact hno c hc (by omega)
      have hw : ∀ (i : Nat) y, i < 126 → Stp.wr (placeN p j) x ≠ .wr i y := fun i y hi e => by
        have e1 := (Stp.wr_inj e).1
        unfold placeN at e1
        omega
      have hs : Stp.wr (placeN p j) x ≠ .sy := fun e => Stp.wr_sy e
      rcases hx with hx | hx | hx | hx | hx | hx | hx | hx | hx
      all_goals first | exact hw _ _ (by omega) hx | exact hs hx | exact himg hx | exact hpl hx | (rcases hx with hx | hx <;> first | exact hw _ _ (by omega) hx | exact hs hx | exact himg hx | exact hpl hx)

end Go.Proofs.YtgfijbbibafdfaaGreat
