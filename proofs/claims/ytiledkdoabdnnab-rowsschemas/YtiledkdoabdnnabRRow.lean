/- Contracts, over the turned program: rows.Write makes a row's key and rest as the document says, or answers Fits' error. Conditions: those that each theorem states. -/
import Derived.Test.YtiledkdoabdnnabRWrite
namespace Go.Proofs.Ytiledkdoabdnnab
open Go.RowKit
set_option linter.unusedVariables false

/-- What Write answers. -/
def rowK (ks : List Int) (u x : Int) (l : List V) : List UInt8 := if fitE ks u x l = 0 then encL (l.take 1) else []
def rowR (ks : List Int) (u x : Int) (l : List V) : List UInt8 := if fitE ks u x l = 0 then encR (l.drop 1) else []

theorem Tup.drop1 {w : World} {b off c : Nat} {l : List V} (h : Tup w (.slice (some ⟨b, off, none⟩) l.length c) l) (a' : Option Addr) (n' c' : Nat) (hn : n' = l.length - 1) (hc : c' = c - 1) (ha : 1 < l.length → a' = some ⟨b, off + 3, none⟩) : Tup w (.slice a' n' c') (l.drop 1) := by
  obtain ⟨a0, c0, h0, h1, h2, h3⟩ := h
  cases h0
  have e : (l.drop 1).length = l.length - 1 := by rw [List.length_drop]
  refine ⟨a', c', by rw [e, hn], by rw [e, hc]; omega, by rw [hc]; omega, fun i hi => ?_⟩
  rw [e] at hi
  obtain ⟨b1, off1, hb, hbl, k0, k1, k2⟩ := h3 (i + 1) (by omega)
  cases hb
  have e2 : (l.drop 1)[i]'(by rw [e]; exact hi) = l[i + 1]'(by omega) := by rw [List.getElem_drop]; congr 1; omega
  have eo : off + 3 + i * 3 = off + (i + 1) * 3 := by omega
  refine ⟨b, off + 3, ha (by omega), hbl, ?_, ?_, ?_⟩
  · rw [e2, eo]; exact k0
  · rw [e2, eo]; exact k1
  · rw [e2, eo]; exact k2
theorem fitE_first {ks : List Int} {u x : Int} {l : List V} (h : fitE ks u x l = 0) : ∃ y r, l = y :: r ∧ y.s.size ≤ 10 ∧ okV y = true ∧ l.length ≤ 4 ∧ fitV (ks.headD 0) y = true := by
  obtain ⟨h1, h2, h3⟩ := fitE_ok h
  have h4 := rightS_len ks u x h1
  match ks, l, h2, h3, h4 with
  | k :: ks, y :: r, h2, h3, h4 =>
    have h5 : fitV k y = true := by
      rw [List.zip_cons_cons, List.all_cons, Bool.and_eq_true] at h3
      exact h3.1
    have h6 := fitV_parts h5
    exact ⟨y, r, rfl, h6.2.1, h6.2.2, by omega, h5⟩
  | [], _, _, _, h4 => simp at h4
  | _ :: _, [], h2, _, _ => simp at h2

set_option maxRecDepth 100000 in
set_option maxHeartbeats 400000 in
theorem rowsWrite_any (kv : Value) (ks : List Int) (u x : Int) (v : Value) (l : List V) (w : World) (hK : Kd w kv ks) (hT : Tup w v l) (hwf : ∀ y ∈ l, y.wf) :
    Calls Try.prog 10 #[sval kv u x, v] w fun e w' => e = .returned (.tuple #[.string ⟨(rowK ks u x l).toArray⟩, .string ⟨(rowR ks u x l).toArray⟩, .int .i64 (fitE ks u x l)]) ∧ w.grownBy w' none := by
  have hga := World.grownBy_alloc w (.cells #[kv, .int .i64 u, .int .i64 x] 24) none
  have hKa := hK.keptN hga
  have hTa := hT.keptN hga
  rcases fitE_cases ks u x l with hE | hE
  · obtain ⟨y, r, rfl, hys, hyo, hl4, _⟩ := fitE_first hE
    have HK : Hid ((⟨(rowK ks u x (y :: r)).toArray⟩ : ByteArray) = ⟨(wrB [y]).toArray⟩ ∧ wrE [y] = 0) := by
      refine ⟨?_, by rw [wrE_one, hyo]; rfl⟩
      rw [wrB_one y hyo]
      unfold rowK
      rw [if_pos hE]
      simp [encL]
    have HR : Hid (rowR ks u x (y :: r) = encR r) := by show _ = _; unfold rowR; rw [if_pos hE]; rfl
    have Hy : Hid (y.wf) := hwf y (by simp)
    have Hr : Hid (∀ z ∈ r, z.wf) := fun z hz => hwf z (by simp [hz])
    have Hr4 : Hid (r.length ≤ 4) := by show _ ≤ _; simp at hl4; omega
    have Hys : Hid (y.s.size ≤ 10) := hys
    obtain ⟨B, HB⟩ : ∃ B : ByteArray, Hid ((⟨(wrB [y]).toArray⟩ : ByteArray) = B) := ⟨_, rfl⟩
    obtain ⟨R, HRR⟩ : ∃ R : ByteArray, Hid ((⟨(encR r).toArray⟩ : ByteArray) = R) := ⟨_, rfl⟩
    rw [HK.out.1, HB.out, HR.out, HRR.out, hE]
    unfold sval
    clear hys hyo hl4
    go_enter Try.func10, Try.ntmps10
    go_wp2_with fail
    refine (fits_row kv ks u x v (y :: r) _ hKa hTa hwf).mono ?_
    rintro e w1 ⟨rfl, hg1⟩
    rw [hE]
    have hT1 := hTa.keptN hg1
    have hT1' := hT1
    obtain ⟨a, c, rfl, hc, hm, hL⟩ := hT1
    obtain ⟨b, off, rfl, hb, c0, c1, c2⟩ := hL 0 (by simp)
    have c0' : w1.cell? ⟨b, off, none⟩ = some (.int .i64 y.k) := c0
    have c1' : w1.cell? ⟨b, off + 1, none⟩ = some (.int .i64 y.n) := c1
    have c2' : w1.cell? ⟨b, off + 2, none⟩ = some (.string y.s) := c2
    have hlm : (y :: r).length ≤ maxLen := Nat.le_trans hc hm
    unfold maxLen at hlm
    have hl0 : (0 : Int) < ((y :: r).length : Int) := by simp
    have hgg := grown_up hga hg1
    clear hL c0 c1 c2 hTa hT hKa hK hga hg1
    by_cases hc1 : c = 1
    · subst hc1
      obtain rfl : r = [] := by cases r with | nil => rfl | cons z r => simp at hc
      have T2 : ∀ W : World, w1.grownBy W none → ∀ a', Tup W (.slice a' 0 0) [] := fun W h a' => (hT1'.keptN h).drop1 a' 0 0 (by simp) (by simp) (by simp)
      go_wp2_with (first
        | (go_at_call 23; refine (writeKey_any y _ Hy.out Hys.out).mono ?_; rintro e w2 ⟨rfl, hg2⟩; rw [HB.out, HK.out.2])
        | (go_at_call 24; refine (writeRest_any _ [] _ (T2 _ hg2 _) Hr.out Hr4.out).mono ?_; rintro e w3 ⟨rfl, hg3⟩; rw [HRR.out]))
      go_ret3
      exact ⟨rfl, grown_up (grown_up hgg hg2) hg3⟩
    · have T2 : ∀ W : World, w1.grownBy W none → Tup W (.slice (some ⟨b, off + 3, none⟩) r.length (c - 1)) r := fun W h => (hT1'.keptN h).drop1 _ _ _ (by simp) rfl (fun _ => rfl)
      go_wp2_with (first
        | (go_at_call 23; refine (writeKey_any y _ Hy.out Hys.out).mono ?_; rintro e w2 ⟨rfl, hg2⟩; rw [HB.out, HK.out.2])
        | (go_at_call 24; refine (writeRest_any _ r _ (T2 _ hg2) Hr.out Hr4.out).mono ?_; rintro e w3 ⟨rfl, hg3⟩; rw [HRR.out]))
      go_ret3
      exact ⟨rfl, grown_up (grown_up hgg hg2) hg3⟩
  · obtain ⟨E, HE⟩ : ∃ E : Int, Hid (fitE ks u x l = E) := ⟨_, rfl⟩
    rw [HE.out] at hE
    have hE0 : E ≠ 0 := by simpa using hE
    have H1 : Hid (rowK ks u x l = [] ∧ rowR ks u x l = []) := by
      unfold rowK rowR
      exact ⟨by rw [if_neg (by rw [HE.out]; exact hE0)], by rw [if_neg (by rw [HE.out]; exact hE0)]⟩
    rw [H1.out.1, H1.out.2, HE.out]
    unfold sval
    go_enter Try.func10, Try.ntmps10
    go_wp2_with fail
    refine (fits_row kv ks u x v l _ hKa hTa hwf).mono ?_
    rintro e w1 ⟨rfl, hg1⟩
    rw [HE.out]
    go_wp2
    go_ret3
    exact ⟨rfl, grown_up hga hg1⟩

end Go.Proofs.Ytiledkdoabdnnab
