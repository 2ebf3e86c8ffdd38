/- Contracts, over the turned program, of what changes the document's device: Write, Sync. Conditions: those that each theorem states. -/
import Derived.Test.YtlalnaaeljikgaaDRef
namespace Go.Proofs.Ytlalnaaeljikgaa
open Go.RowKit
set_option linter.unusedVariables false

theorem okF_called {D : Dv} (h : D.okF) : D.called.okF := h
/-- Behind a Write that is done. -/
theorem ref_written {w : World} {p : Rp} {D : Dv} {k : Nat} {X : List UInt8} (h : Ref w p { ({ Rv.of D with a := updF (Rv.of D).a k X } : Rv) with u := updF (Rv.of D).u k true }) : Ref w p (Rv.of { D with u := put D.u k X }) := by
  refine h.congr rfl rfl rfl (fun i _ => rfl) (fun i _ => ?_) (fun i _ => ?_)
  · show Dv.at _ i = updF _ k X i
    unfold Dv.at put updF Rv.of Dv.at
    by_cases e : i = k
    · simp [e]
    · simp [e]
  · show (put D.u k X i).isSome = updF _ k true i
    unfold put updF Rv.of
    by_cases e : i = k
    · simp [e]
    · simp [e]

set_option maxRecDepth 100000 in
set_option maxHeartbeats 800000 in
theorem rwrite_any (p : Rp) (D : Dv) (i : Int) (s : ByteArray) (w : World) (hR : Ref w p (Rv.of D)) (hf : D.okF) (hc0 : 0 ≤ D.c) (hc1 : D.c ≤ 1000000) (hs : s.size ≤ maxLen) :
    Calls Try.prog 29 #[.pointer (some ⟨p.r, 0, none⟩), .int .i64 i, .string s] w fun e w' => e = .returned (.int .i64 (wrE D i s)) ∧ Ref w' p (Rv.of (D.write i s)) ∧ Kp p.mem w w' := by
  have hs' := hs
  unfold maxLen at hs'
  by_cases hst : stillB D = true
  · have hE : wrE D i s = 9 := by simp [wrE, hst]
    have hW : D.write i s = D.called := by simp [Dv.write, hE]
    rw [hE, hW]
    go_enter Try.func29, Try.ntmps29
    go_wp2_with (go_at_call 38; refine (rcall_any _ _ _ hR hf hc0 hc1).mono ?_; rintro e w1 ⟨rfl, hR1, hk1⟩; rw [if_pos hst])
    go_ret
    exact ⟨rfl, hR1, hk1⟩
  · have hst' : stillB D = false := by simpa using hst
    by_cases hh : hasB D.n i = true
    · obtain ⟨k, rfl⟩ : ∃ k : Nat, i = k := ⟨i.toNat, by simp [hasB] at hh; omega⟩
      have hk : k < D.n := by simp [hasB] at hh; omega
      by_cases hsz : s.size ≤ 64
      · have hE : wrE D k s = 0 := by simp [wrE, hst', hh, hsz]
        have hW : D.write k s = { D.called with u := put D.u k (whole s.data.toList) } := by simp [Dv.write, hE]
        rw [hE, hW]
        have hk' : (k : Int) < (D.n : Int) := by omega
        obtain ⟨X, HX⟩ : ∃ X, Hid (whole s.data.toList = X) := ⟨_, rfl⟩
        have hXl : X.length = 64 := by rw [← HX.out]; exact whole_len _
        have h4 := hR.n4
        rw [show (Rv.of D).n = D.n from rfl] at h4
        go_enter Try.func29, Try.ntmps29
        go_upto_region 2 with (go_at_call 38; refine (rcall_any _ _ _ hR hf hc0 hc1).mono ?_; rintro e w1 ⟨rfl, hR1, hk1⟩; rw [if_neg hst])
        have h0 := hR1.c0
        obtain ⟨ha, hne⟩ := hR1.qa (by show 0 < D.n; omega)
        rw [ha, show (Rv.of D.called).n = D.n from rfl] at h0
        go_upto_region 8 with fail
        have q1 := hR1.p1 k hk
        have q2 := hR1.fq (k * 3 + 1)
        have hqn : p.q < w1.heap.size := hR1.lq
        have k0 : ∀ W : World, Kp none' w1 W → W.cell? ⟨p.r, 0, none⟩ = some (.slice (some ⟨p.q, 0, none⟩) D.n p.cap) := fun W h => h.cell h0 (fun h => h)
        have k1 : ∀ W : World, Kp none' w1 W → W.cell? ⟨p.q, k * 3 + 1, none⟩ = some (strV ((Rv.of D.called).a k)) := fun W h => h.cell q1 (fun h => h)
        have k2 : ∀ W : World, Kp none' w1 W → W.frozen? ⟨p.q, k * 3 + 1, none⟩ = false := fun W h => by rw [h.frozen hqn (fun h => h)]; exact q2
        have dr : Kp none' w1 w1.drew := Kp.drew _ _
        have HR1 : Hid (Ref w1 p (Rv.of D.called)) := hR1
        have HK1 : Hid (Kp p.mem w w1) := hk1
        clear hR hR1 hk1 h0 q1 q2
        have kS : ∀ W : World, W.cell? ⟨p.r, 0, none⟩ = some (.slice (some ⟨p.q, 0, none⟩) D.n p.cap) → (W.setCell ⟨p.q, k * 3 + 1, none⟩ (.string ⟨X.toArray⟩)).cell? ⟨p.r, 0, none⟩ = some (.slice (some ⟨p.q, 0, none⟩) D.n p.cap) := fun W h => (Kp.setCell (S := only p.q) W p.q _ _ rfl).cell h hne
        have dr0 := k0 _ dr
        go_region_held_law (fun W => W.cell? ⟨p.r, 0, none⟩ = some (.slice (some ⟨p.q, 0, none⟩) D.n p.cap)) (first | assumption | exact kS _ (by assumption)) (first
          | (go_at_call 22; refine (whole_any s _ hs).mono ?_; rintro e w2 ⟨rfl, hk2⟩; rw [HX.out]; have S2 : Kp none' w1 w2 := dr.then hk2; have T0 := k0 _ S2; have T1 := k1 _ S2; have T2 := k2 _ S2)
          | fail)
        have hR2 : Ref w2 p (Rv.of D.called) := HR1.out.keptN S2
        have hR3 := hR2.setA k hk X hXl
        obtain ⟨w3, H3⟩ : ∃ w3, Hid (w2.setCell ⟨p.q, k * 3 + 1, none⟩ (.string ⟨X.toArray⟩) = w3) := ⟨_, rfl⟩
        unfold strV at hR3
        have hk3 : Kp p.mem w2 w3 := by rw [← H3.out]; exact Kp.setCell _ _ _ _ (.inr rfl)
        rw [H3.out] at hR3 ⊢
        have m0 := hR3.c0
        rw [ha, show (Rv.of D.called).n = D.n from rfl] at m0
        have m1 := hR3.p2 k hk
        have m2 := hR3.fq (k * 3 + 2)
        have HF : Hid (Ref (w3.setCell ⟨p.q, k * 3 + 2, none⟩ (.bool true)) p (Rv.of { D.called with u := put D.u k X })) := ref_written (D := D.called) (hR3.setU k hk true)
        clear k0 k1 k2 kS hR2 hR3 T0 T1 T2
        go_wp2
        go_ret
        exact ⟨rfl, by rw [HX.out]; exact HF.out, (HK1.out.thenN S2).then (hk3.then (Kp.setCell _ _ _ _ (.inr rfl)))⟩
      · have hE : wrE D k s = 3 := by simp [wrE, hst', hh, hsz]
        have hW : D.write k s = D.called := by simp [Dv.write, hE]
        rw [hE, hW]
        have hk' : (k : Int) < (D.n : Int) := by omega
        have h4 := hR.n4
        rw [show (Rv.of D).n = D.n from rfl] at h4
        go_enter Try.func29, Try.ntmps29
        go_upto_region 2 with (go_at_call 38; refine (rcall_any _ _ _ hR hf hc0 hc1).mono ?_; rintro e w1 ⟨rfl, hR1, hk1⟩; rw [if_neg hst])
        have h0 := hR1.c0
        rw [show (Rv.of D.called).n = D.n from rfl] at h0
        go_wp2
        go_ret
        exact ⟨rfl, hR1, hk1⟩
    · have hh' : hasB D.n i = false := by simpa using hh
      have hE : wrE D i s = 7 := by simp [wrE, hst', hh']
      have hW : D.write i s = D.called := by simp [Dv.write, hE]
      rw [hE, hW]
      have hx : i < 0 ∨ (0 ≤ i ∧ ¬ i < (D.n : Int)) := by simp [hasB] at hh; omega
      rcases hx with hx | ⟨hx, hy⟩
      · go_enter Try.func29, Try.ntmps29
        go_wp2_with (go_at_call 38; refine (rcall_any _ _ _ hR hf hc0 hc1).mono ?_; rintro e w1 ⟨rfl, hR1, hk1⟩; rw [if_neg hst])
        go_ret
        exact ⟨rfl, hR1, hk1⟩
      · have h4 := hR.n4
        rw [show (Rv.of D).n = D.n from rfl] at h4
        go_enter Try.func29, Try.ntmps29
        go_upto_region 2 with (go_at_call 38; refine (rcall_any _ _ _ hR hf hc0 hc1).mono ?_; rintro e w1 ⟨rfl, hR1, hk1⟩; rw [if_neg hst])
        have h0 := hR1.c0
        rw [show (Rv.of D.called).n = D.n from rfl] at h0
        go_wp2
        go_ret
        exact ⟨rfl, hR1, hk1⟩

/-- The first k places made sure. -/
def Rv.syncK (R : Rv) (k : Nat) : Rv := { R with s := fun i => if i < k then R.a i else R.s i, u := fun i => if i < k then false else R.u i }
theorem ref_sync0 {w : World} {p : Rp} {R : Rv} (h : Ref w p R) : Ref w p (R.syncK 0) := h.congr rfl rfl rfl (fun i _ => by simp [Rv.syncK]) (fun i _ => rfl) (fun i _ => by simp [Rv.syncK])
theorem ref_syncS {w : World} {p : Rp} {R : Rv} {k : Nat} (h : Ref w p { ({ R.syncK k with s := updF (R.syncK k).s k (R.a k) } : Rv) with u := updF (R.syncK k).u k false }) : Ref w p (R.syncK (k + 1)) := by
  refine h.congr rfl rfl rfl (fun i _ => ?_) (fun i _ => rfl) (fun i _ => ?_)
  · show (if i < k + 1 then R.a i else R.s i) = updF (fun i => if i < k then R.a i else R.s i) k (R.a k) i
    unfold updF
    by_cases e : i = k
    · subst e; simp
    · by_cases h2 : i < k
      · simp [e, h2, Nat.lt_succ_of_lt h2]
      · have : ¬ i < k + 1 := by omega
        simp [e, h2, this]
  · show (if i < k + 1 then false else R.u i) = updF (fun i => if i < k then false else R.u i) k false i
    unfold updF
    by_cases e : i = k
    · subst e; simp
    · by_cases h2 : i < k
      · simp [e, h2, Nat.lt_succ_of_lt h2]
      · have : ¬ i < k + 1 := by omega
        simp [e, h2, this]
theorem ref_synced {w : World} {p : Rp} {D : Dv} (h : Ref w p ((Rv.of D).syncK D.n)) : Ref w p (Rv.of { D with s := D.at, u := fun _ => none }) := by
  refine h.congr rfl rfl rfl (fun i hi => ?_) (fun i hi => ?_) (fun i hi => ?_)
  · have hi' : i < D.n := hi
    show D.at i = (if i < D.n then D.at i else D.s i)
    rw [if_pos hi']
  · show D.at i = D.at i
    rfl
  · have hi' : i < D.n := hi
    show false = (if i < D.n then false else (D.u i).isSome)
    rw [if_pos hi']

set_option maxRecDepth 100000 in
set_option maxHeartbeats 800000 in
theorem rsync_any (p : Rp) (D : Dv) (w : World) (hR : Ref w p (Rv.of D)) (hf : D.okF) (hc0 : 0 ≤ D.c) (hc1 : D.c ≤ 1000000) :
    Calls Try.prog 30 #[.pointer (some ⟨p.r, 0, none⟩)] w fun e w' => e = .returned (.int .i64 (syE D)) ∧ Ref w' p (Rv.of D.sync) ∧ Kp p.mem w w' := by
  by_cases hst : stillB D = true
  · have hE : syE D = 9 := by simp [syE, hst]
    have hW : D.sync = D.called := by simp [Dv.sync, hst]
    rw [hE, hW]
    go_enter Try.func30, Try.ntmps30
    go_wp2_with (go_at_call 38; refine (rcall_any _ _ _ hR hf hc0 hc1).mono ?_; rintro e w1 ⟨rfl, hR1, hk1⟩; rw [if_pos hst])
    go_ret
    exact ⟨rfl, hR1, hk1⟩
  · have hE : syE D = 0 := by simp [syE, hst]
    have hW : D.sync = { D.called with s := D.at, u := fun _ => none } := by simp [Dv.sync, hst]
    rw [hE, hW]
    have h4 := hR.n4
    rw [show (Rv.of D).n = D.n from rfl] at h4
    go_enter Try.func30, Try.ntmps30
    go_upto_region 5 with (go_at_call 38; refine (rcall_any _ _ _ hR hf hc0 hc1).mono ?_; rintro e w1 ⟨rfl, hR1, hk1⟩; rw [if_neg hst])
    go_loopw [4] (fun t wr => ∃ k : Nat, k ≤ D.n ∧ t = .int .i64 k ∧ Ref wr p ((Rv.of D.called).syncK k) ∧ Kp p.mem w wr) (fun t _ => D.n - (intOf t).toNat)
    case atStart => exact ⟨0, Nat.zero_le _, rfl, ref_sync0 hR1, hk1⟩
    case round =>
      obtain ⟨k, hk, rfl, hRr, hKr⟩ := hrel
      clear hR1 hk1 hR
      have h0 := hRr.c0
      rw [show ((Rv.of D.called).syncK k).n = D.n from rfl] at h0
      by_cases hlt : k < D.n
      · obtain ⟨ha, hne⟩ := hRr.qa (by show 0 < D.n; omega)
        rw [ha] at h0
        have hk' : (k : Int) < (D.n : Int) := by omega
        have hal : ((Rv.of D.called).a k).length = 64 := hRr.l2 k hlt
        have hR2 := hRr.keptN (Kp.drew none' wr)
        have g0 : wr.drew.cell? ⟨p.r, 0, none⟩ = some (.slice (some ⟨p.q, 0, none⟩) D.n p.cap) := h0
        have g1 := hR2.p1 k hlt
        have g2 := hR2.p0 k hlt
        have g3 := hR2.fq (k * 3)
        have hR3 := hR2.setS k hlt ((Rv.of D.called).a k) hal
        rw [show ((Rv.of D.called).syncK k).a k = (Rv.of D.called).a k from rfl] at g1
        obtain ⟨y, Hy⟩ : ∃ y, Hid ((Rv.of D.called).a k = y) := ⟨_, rfl⟩
        rw [Hy.out] at g1 hR3 hal
        unfold strV at g1 g2 hR3
        have HK : Hid (Kp p.mem w wr.drew) := hKr.thenN (Kp.drew _ _)
        have HR3 : Hid (Ref (wr.drew.setCell ⟨p.q, k * 3, none⟩ (.string ⟨y.toArray⟩)) p { (Rv.of D.called).syncK k with s := updF ((Rv.of D.called).syncK k).s k y }) := hR3
        clear hRr hR2 hKr hR3
        go_upto_region 7 with fail
        have kS : ∀ W : World, W.cell? ⟨p.r, 0, none⟩ = some (.slice (some ⟨p.q, 0, none⟩) D.n p.cap) ∧ W.cell? ⟨p.q, k * 3 + 1, none⟩ = some (.string ⟨y.toArray⟩) →
            (W.setCell ⟨p.q, k * 3, none⟩ (.string ⟨y.toArray⟩)).cell? ⟨p.r, 0, none⟩ = some (.slice (some ⟨p.q, 0, none⟩) D.n p.cap) ∧ (W.setCell ⟨p.q, k * 3, none⟩ (.string ⟨y.toArray⟩)).cell? ⟨p.q, k * 3 + 1, none⟩ = some (.string ⟨y.toArray⟩) := fun W h =>
          ⟨(Kp.setCell (S := only p.q) W p.q _ _ rfl).cell h.1 hne, by rw [World.cell?_setCell_other (h := addr_ne (by omega))]; exact h.2⟩
        go_region_held_law (fun W => W.cell? ⟨p.r, 0, none⟩ = some (.slice (some ⟨p.q, 0, none⟩) D.n p.cap) ∧ W.cell? ⟨p.q, k * 3 + 1, none⟩ = some (.string ⟨y.toArray⟩)) (first | exact ⟨g0, g1⟩ | exact kS _ ⟨g0, g1⟩ | exact kS _ (by assumption)) (fail)
        have hR4 := HR3.out.setU k hlt false
        rw [← Hy.out] at hR4
        have HF := hide (ref_syncS hR4)
        rw [Hy.out] at HF
        have hk3 : Kp p.mem wr.drew (wr.drew.setCell ⟨p.q, k * 3, none⟩ (.string ⟨y.toArray⟩)) := Kp.setCell _ _ _ _ (.inr rfl)
        obtain ⟨w3, H3⟩ : ∃ w3, Hid (wr.drew.setCell ⟨p.q, k * 3, none⟩ (.string ⟨y.toArray⟩) = w3) := ⟨_, rfl⟩
        rw [H3.out] at HR3 HF hk3
        rw [show (wr.setCell ⟨p.q, k * 3, none⟩ (.string ⟨y.toArray⟩)).drew = w3 from H3.out]
        have m0 := HR3.out.c0
        rw [ha, show ((Rv.of D.called).syncK k).n = D.n from rfl] at m0
        have m1 := HR3.out.p2 k hlt
        have m2 := HR3.out.fq (k * 3 + 2)
        clear g0 g1 g2 g3 h0 kS hR4
        go_wp2
        go_roundw
        case rel => exact ⟨k + 1, by omega, by go_num, HF.out, HK.out.then (hk3.then (Kp.setCell _ _ _ _ (.inr rfl)))⟩
        case measure => simp [intOf]; omega
      · obtain rfl : k = D.n := by omega
        have HF : Hid (Ref wr p (Rv.of { D.called with s := D.at, u := fun _ => none })) := ref_synced (D := D.called) hRr
        clear hRr
        go_wp2
        go_ret
        exact ⟨rfl, HF.out, hKr⟩

end Go.Proofs.Ytlalnaaeljikgaa
