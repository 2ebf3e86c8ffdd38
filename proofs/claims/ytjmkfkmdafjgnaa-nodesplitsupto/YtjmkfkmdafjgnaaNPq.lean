/- Contracts, over the turned program: Split. Conditions: those that each theorem states. -/
import Derived.Test.YtjmkfkmdafjgnaaNPm
import Derived.Test.YtjmkfkmdafjgnaaNPo
import Derived.Test.YtjmkfkmdafjgnaaNPp
import Derived.Test.YtjmkfkmdafjgnaaNParts
namespace Go.Proofs.Ytjmkfkmdafjgnaa
open Go Go.RowKit
set_option linter.unusedVariables false

theorem Nv.ownI {w : World} {v dv : Value} {ks : List ByteArray} {kd : List Int} (h : Sl Value.string w.heap.size w v ks) (hd : Sl (Value.int .i64) w.heap.size w dv kd) (hw : ∀ k ∈ ks, k.size ≤ maxLen) (hwd : ∀ z ∈ kd, -9223372036854775808 ≤ z ∧ z < 9223372036854775808) : Nv w.heap.size w (.agg #[.bool false, .slice none 0 0, v, dv]) ⟨false, [], ks, kd⟩ :=
  ⟨⟨_, v, dv, rfl, Prs.nil _ _, h, hd⟩, ⟨by simp, hw, hwd⟩⟩
theorem Ow.sl' {α : Type} {f : α → Value} {e : TypeId} {w : World} {base : Nat} {v : Value} {l : List α} (h : Ow f e w base v l) : Sl f w.heap.size w v l := h.sl

set_option maxRecDepth 100000 in
set_option maxHeartbeats 1000000 in
theorem nsplit_leaf (x : Value) (n : Nd) (B : Nat) (w : World) (hN : Nv B w x n) (hB : B ≤ w.heap.size) (hl : n.leaf = true) (h2 : 2 ≤ n.ps.length) (hp : n.ps.length ≤ 1048576) (hsz : n.size ≤ 4194304) :
    Calls Try.prog 22 #[x] w fun e w' => ∃ y z, e = .returned (.tuple #[y, z, .string n.mid]) ∧ Nv w'.heap.size w' y n.fst ∧ Nv w'.heap.size w' z n.snd ∧ Kp none' w w' := by
  have HPA : n.parts = true := by unfold Nd.parts; simp [hl, h2]
  have HF : Hid (n.fst = ⟨true, n.ps.take n.at_, [], []⟩) := by show _ = _; unfold Nd.fst; rw [HPA]; simp [hl]
  have HS : Hid (n.snd = ⟨true, n.ps.drop n.at_, [], []⟩) := by show _ = _; unfold Nd.snd; rw [HPA]; simp [hl]
  have HM : Hid (n.mid = (n.ps.getD n.at_ ⟨⟨#[]⟩, ⟨#[]⟩⟩).k) := by show _ = _; unfold Nd.mid; rw [HPA]; simp [hl]
  have HSUM : n.size = 2 + (n.ps.map Pr.size).sum := by unfold Nd.size; simp [hl]
  have HAT : splG (fun j => Pr.size (n.ps.getD j ⟨⟨#[]⟩, ⟨#[]⟩⟩)) (n.ps.map Pr.size).sum (n.ps.length - 1) n.ps.length 1 (Pr.size (n.ps.getD 0 ⟨⟨#[]⟩, ⟨#[]⟩⟩)) = n.at_ := by
    unfold Nd.at_
    rw [hl, if_pos rfl, HSUM, Nat.add_sub_cancel_left]
  obtain ⟨h1, hlt, _, _⟩ := at_leaf hl h2
  rw [HF.out, HS.out, HM.out]
  have hwp := hN.wf.p
  obtain ⟨⟨pv, kv, dv, rfl, hP, hS, hD⟩, hwf⟩ := hN
  obtain ⟨A, HA⟩ : ∃ q, Hid (n.at_ = q) := ⟨_, rfl⟩
  rw [HA.out] at HAT hlt ⊢
  obtain ⟨key, HK⟩ : ∃ q, Hid ((n.ps.getD A ⟨⟨#[]⟩, ⟨#[]⟩⟩).k = q) := ⟨_, rfl⟩
  rw [HK.out]
  have hkey : n.ps[A].k = key := by rw [← HK.out, List.getD_eq_getElem?_getD, List.getElem?_eq_getElem hlt]; rfl
  obtain ⟨a1, c1, e1, _⟩ := id hP
  obtain ⟨a2, c2, e2, _⟩ := id hS
  obtain ⟨a3, c3, e3, _⟩ := id hD
  subst e1 e2 e3
  rw [hl]
  have nb := ((Nb.new w true (.slice a1 n.ps.length c1) (.slice a2 n.ks.length c2) (.slice a3 n.kd.length c3)).kept (Kp.alloc none' _ (.cells #[.bool false, .slice none 0 0, .slice none 0 0, .slice none 0 0] 26)) (fun h => h)).kept (Kp.alloc none' _ (.cells #[.bool false, .slice none 0 0, .slice none 0 0, .slice none 0 0] 26)) (fun h => h)
  have n2 := (Nb.new (w.alloc (.cells #[.bool true, .slice a1 n.ps.length c1, .slice a2 n.ks.length c2, .slice a3 n.kd.length c3] 26)) false (.slice none 0 0) (.slice none 0 0) (.slice none 0 0)).kept (Kp.alloc none' _ (.cells #[.bool false, .slice none 0 0, .slice none 0 0, .slice none 0 0] 26)) (fun h => h)
  have n3 := Nb.new ((w.alloc (.cells #[.bool true, .slice a1 n.ps.length c1, .slice a2 n.ks.length c2, .slice a3 n.kd.length c3] 26)).alloc (.cells #[.bool false, .slice none 0 0, .slice none 0 0, .slice none 0 0] 26)) false (.slice none 0 0) (.slice none 0 0) (.slice none 0 0)
  rw [show (w.alloc (.cells #[.bool true, .slice a1 n.ps.length c1, .slice a2 n.ks.length c2, .slice a3 n.kd.length c3] 26)).heap.size = w.heap.size + 1 by simp] at n2
  rw [show ((w.alloc (.cells #[.bool true, .slice a1 n.ps.length c1, .slice a2 n.ks.length c2, .slice a3 n.kd.length c3] 26)).alloc (.cells #[.bool false, .slice none 0 0, .slice none 0 0, .slice none 0 0] 26)).heap.size = w.heap.size + 1 + 1 by simp] at n3
  have hK0 : Kp none' w (((w.alloc (.cells #[.bool true, .slice a1 n.ps.length c1, .slice a2 n.ks.length c2, .slice a3 n.kd.length c3] 26)).alloc (.cells #[.bool false, .slice none 0 0, .slice none 0 0, .slice none 0 0] 26)).alloc (.cells #[.bool false, .slice none 0 0, .slice none 0 0, .slice none 0 0] 26)) := ((Kp.alloc _ _ _).thenN (Kp.alloc _ _ _)).thenN (Kp.alloc _ _ _)
  have HSL : Hid (∀ W : World, Kp none' w W → Calls Try.prog 40 #[.slice a1 n.ps.length c1] W fun e w' => ∃ a m c a' m' c', e = .returned (.tuple #[.agg #[.bool true, .slice a m c, .slice none 0 0, .slice none 0 0], .agg #[.bool true, .slice a' m' c', .slice none 0 0, .slice none 0 0], .string key]) ∧ OwP w' W.heap.size (.slice a m c) (n.ps.take A) ∧ OwP w' W.heap.size (.slice a' m' c') (n.ps.drop A) ∧ Kp none' W w') := fun W hk => splitLeaf_any _ n.ps B W (hP.keptN hk) (Nat.le_trans hB hk.size) h2 (by omega) (by omega) A HAT hlt key hkey
  have h2i : (2 : Int) ≤ (n.ps.length : Int) := by omega
  have HWA : Hid (∀ p ∈ n.ps.take A, p.k.size ≤ maxLen ∧ p.v.size ≤ maxLen) := fun p hp => hwp p (List.mem_of_mem_take hp)
  have HWD : Hid (∀ p ∈ n.ps.drop A, p.k.size ≤ maxLen ∧ p.v.size ≤ maxLen) := fun p hp => hwp p (List.mem_of_mem_drop hp)
  clear hP hS hD hwf hkey HAT hwp hsz hp HSUM HPA
  go_enter Try.func22, Try.ntmps22
  go_upto_region 1 with fail
  generalize ((w.alloc (.cells #[.bool true, .slice a1 n.ps.length c1, .slice a2 n.ks.length c2, .slice a3 n.kd.length c3] 26)).alloc (.cells #[.bool false, .slice none 0 0, .slice none 0 0, .slice none 0 0] 26)).alloc (.cells #[.bool false, .slice none 0 0, .slice none 0 0, .slice none 0 0] 26) = w0 at *
  have d0 := nb.c0
  have d1 := nb.c1
  have HLT : Hid (w.heap.size + 1 + 1 < w0.heap.size) := n3.lt
  go_wp2_with (first
    | (go_at_call 40; refine (HSL.out _ hK0).mono ?_; rintro e w1 ⟨a4, m4, c4, a5, m5, c5, rfl, hO1, hO2, hK1⟩; replace n2 := n2.kept hK1 (fun h => h); replace n3 := n3.kept hK1 (fun h => h))
    | (refine nwpList_store_nb rfl rfl (.tmp 2) (.tmp 16) rfl (w.heap.size + 1) rfl rfl n2 ?_; clear n2; intro w2 n2 hK2; replace n3 := nb_far n3 (by omega) hK2)
    | (refine nwpList_store_nb rfl rfl (.tmp 3) (.tmp 17) rfl (w.heap.size + 1 + 1) rfl rfl n3 ?_; clear n3; intro w3 n3 hK3; replace n2 := nb_far n2 (by omega) hK3)
    | fail)
  refine bodyPost_ret (results_nb2t rfl _ (w.heap.size + 1) (w.heap.size + 1 + 1) _ (.string key) rfl rfl rfl n2 n3) rfl ?_
  have k2 : Kp none' w w3 := kp_far (kp_far (hK0.thenN hK1) (by omega) hK2) (by omega) hK3
  replace hO1 := (hO1.kept hK2 (fun z hz e => by have := (hO1.lt z hz).1; have := HLT.out; unfold only at e; omega))
  replace hO1 := (hO1.kept hK3 (fun z hz e => by have := (hO1.lt z hz).1; have := HLT.out; unfold only at e; omega))
  replace hO2 := (hO2.kept hK2 (fun z hz e => by have := (hO2.lt z hz).1; have := HLT.out; unfold only at e; omega))
  replace hO2 := (hO2.kept hK3 (fun z hz e => by have := (hO2.lt z hz).1; have := HLT.out; unfold only at e; omega))
  exact ⟨_, _, rfl, Nv.own hO1.prs HWA.out, Nv.own hO2.prs HWD.out, k2⟩

end Go.Proofs.Ytjmkfkmdafjgnaa
