/- Contract, over the turned program: a cache's Commit. Conditions: those that each theorem states. -/
import Derived.Test.YtcfhgfelmofgjaaCLaw
namespace Go.Proofs.Ytcfhgfelmofgjaa
open Go.RowKit
open Go.ChangeMaps (setBlock)
set_option linter.unusedVariables false

theorem RM.putD {w w' : World} {B : List Nat} {N : Nat → Int} {D : Nat → ByteArray} {ah be : Nat → Nat} (h : RM w B N D ah be) {a : Nat} {d : ByteArray} (hp : Put w w' a 1 (.string d)) : RM w' B N (updF' D a d) ah be := fun x hx => by
  have q := h x hx
  refine ⟨by rw [hp.old _ _ (.inr (by omega))]; exact q.c0, ?_, by rw [hp.old _ _ (.inr (by omega))]; exact q.c2, by rw [hp.old _ _ (.inr (by omega))]; exact q.c3, fun j => by rw [hp.fr]; exact q.fr j, hp.bl _ q.bl⟩
  by_cases e : x = a
  · subst e; simp only [updF', if_true]; exact hp.same
  · simp only [updF', e, if_false]; rw [hp.old _ _ (.inl e)]; exact q.c1
theorem withC_snoc (Q : Nat → ByteArray) (l : List Chg) (c : Chg) (p : Nat) : withC Q (l ++ [c]) p = if (p : Int) = c.page then c.data else withC Q l p := by simp [withC, List.foldl_append]
theorem nodup_inj {L : List Nat} {N : Nat → Int} (h : (L.map N).Nodup) {x y : Nat} (hx : x ∈ L) (hy : y ∈ L) (he : N x = N y) : x = y := by
  unfold List.Nodup at h
  rw [List.pairwise_map] at h
  induction L with
  | nil => cases hx
  | cons a L ih =>
    obtain ⟨h1, h2⟩ := List.pairwise_cons.1 h
    rcases List.mem_cons.1 hx with ex | hx'
    · rcases List.mem_cons.1 hy with ey | hy'
      · rw [ex, ey]
      · exact absurd (by rw [← ex]; exact he) (h1 y hy')
    · rcases List.mem_cons.1 hy with ey | hy'
      · exact absurd (by rw [← ey]; exact he.symm) (h1 x hx')
      · exact ih h2 hx' hy'
theorem rightE_one (n : Nat) (x : Chg) : rightE n [x] = if inR n x.page then 0 else 7 := by
  unfold rightE allB
  by_cases h : inR n x.page = true
  · have : hasB n x.page = true := by have := inR_iff.1 h; simp [hasB]; omega
    simp [h, this]
  · have : hasB n x.page = false := by
      cases hb : hasB n x.page with
      | false => rfl
      | true => exact absurd (inR_iff.2 (by simp [hasB] at hb; omega)) h
    simp [h, this]
/-- A cache while a commit's changes are brought into what it keeps: j of them. -/
structure Mid (w wr : World) (q : Cq) (F : Nat → Prop) (D : Dv) (Q : Nat → ByteArray) (M cm c' : Int) (l : List Chg) (j : Nat) (L : List Nat) (N : Nat → Int) (h mi : Int) : Prop where
  hR : Rest wr q.p D q.n (withC Q l) M
  hP : Pag wr q.g q.p q.n c' (.slice none 0 0) []
  cc : Cc wr q h mi cm
  mc : Mc wr q.m L N
  rg : ∃ T ah be, Ring wr q.s L N T ah be ∧ ∀ x ∈ L, T x = withC Q (l.take j) (N x).toNat
  kp : Kp F w wr
end Go.Proofs.Ytcfhgfelmofgjaa
