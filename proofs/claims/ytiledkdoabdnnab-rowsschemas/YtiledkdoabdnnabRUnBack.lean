/- Schemas there and back, in plain words (no program): a schema's bytes are read as that schema. No conditions but those that each theorem states. -/
import Derived.Test.YtiledkdoabdnnabRUnRef
namespace Go.Proofs.Ytiledkdoabdnnab
open Go Go.RowKit
set_option linter.unusedVariables false

theorem n1_cons (c : UInt8) (r : List UInt8) : n1 (mkB (c :: r)) 0 = c.toNat ∧ n1S (mkB (c :: r)) 0 = mkB r ∧ n1E (mkB (c :: r)) 0 = 0 := by
  have h := raw_app [c] r
  have e : ((wid 1 : Nat) : Int) = (([c] : List UInt8).length : Int) := rfl
  unfold n1 n1S n1E
  rw [e, show c :: r = [c] ++ r from rfl, h.1, h.2.1, h.2.2, mkB_list]
  exact ⟨by simp [val], rfl, rfl⟩
theorem b8_nat (k : Int) (h0 : 0 ≤ k) (h1 : k < 256) : (b8 k).toNat = k.toNat := by
  unfold b8
  rw [UInt8.toNat_ofNat']
  omega
theorem kinds_back (ks : List Int) (r : List UInt8) (h : ∀ k ∈ ks, k = 1 ∨ k = 2) : kL ks.length (mkB (ks.map b8 ++ r)) 0 = ks ∧ kS ks.length (mkB (ks.map b8 ++ r)) 0 = mkB r ∧ kE ks.length (mkB (ks.map b8 ++ r)) 0 = 0 := by
  induction ks with
  | nil => exact ⟨rfl, rfl, rfl⟩
  | cons k ks ih =>
    have h2 := ih (fun z hz => h z (by simp [hz]))
    have hk := h k (by simp)
    have hc := n1_cons (b8 k) (ks.map b8 ++ r)
    have hb := b8_nat k (by omega) (by omega)
    simp only [List.length_cons, List.map_cons, List.cons_append, kL, kS, kE]
    rw [hc.1, hc.2.1, hc.2.2, h2.1, h2.2.1, h2.2.2, hb]
    refine ⟨?_, rfl, rfl⟩
    congr 1
    omega
theorem un_back (ks : List Int) (u x : Int) (hr : rightS ks u x = true) : unRaw (mkB (schB ks u x)) = ⟨ks, u.toNat, x.toNat, 0⟩ := by
  obtain ⟨hk, hu0, hu1, hx0, hx1⟩ := rightS_parts hr
  have hl := rightS_len ks u x hr
  have h1 := n1_cons (b8 ks.length) (ks.map b8 ++ [b8 u, b8 x])
  have hb := b8_nat (ks.length : Int) (by omega) (by omega)
  rw [Int.toNat_natCast] at hb
  have h2 := kinds_back ks [b8 u, b8 x] hk
  have h3 := n1_cons (b8 u) [b8 x]
  have h4 := n1_cons (b8 x) []
  unfold unRaw schB
  dsimp only
  rw [h1.1, h1.2.1, h1.2.2, hb, h2.1, h2.2.1, h2.2.2, h3.1, h3.2.1, h3.2.2, h4.1, h4.2.1, h4.2.2, b8_nat u (by omega) (by omega), b8_nat x (by omega) (by omega)]
  rfl
theorem toldS_kd {w' : World} {t : ByteArray} {kv : Value} {u x er : Int} (h : ToldS w' t kv u x er) : Kd w' kv (if unOk t then (unRaw t).ks else []) ∧ u = (if unOk t then ((unRaw t).u : Int) else 0) ∧ x = (if unOk t then ((unRaw t).x : Int) else 0) ∧ er = (if unOk t then 0 else 10) := by
  unfold ToldS at h
  by_cases hk : unOk t = true
  · rw [if_pos hk] at h
    rw [if_pos hk, if_pos hk, if_pos hk, if_pos hk]
    exact ⟨h.2.2.2, h.2.1, h.2.2.1, h.1⟩
  · rw [if_neg hk] at h
    rw [if_neg hk, if_neg hk, if_neg hk, if_neg hk]
    obtain ⟨h1, h2, h3, rfl⟩ := h
    exact ⟨Kd.nil _, h2, h3, h1⟩
theorem toldS_back {w' : World} {ks : List Int} {u x : Int} {kv : Value} {u' x' er : Int} (hr : rightS ks u x = true) (h : ToldS w' (mkB (schB ks u x)) kv u' x' er) : Kd w' kv ks ∧ u' = u ∧ x' = x ∧ er = 0 := by
  obtain ⟨hk, hu0, hu1, hx0, hx1⟩ := rightS_parts hr
  have hU := un_back ks u x hr
  have eu : ((u.toNat : Nat) : Int) = u := by omega
  have ex : ((x.toNat : Nat) : Int) = x := by omega
  have hok : unOk (mkB (schB ks u x)) = true := by
    unfold unOk
    rw [hU]
    dsimp only
    rw [eu, ex, hr]
    rfl
  unfold ToldS at h
  rw [if_pos hok, hU] at h
  dsimp only at h
  rw [eu, ex] at h
  exact ⟨h.2.2.2, h.2.1, h.2.2.1, h.1⟩

end Go.Proofs.Ytiledkdoabdnnab
