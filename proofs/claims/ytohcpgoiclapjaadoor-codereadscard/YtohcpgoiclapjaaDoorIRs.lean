/- Contract, over the turned program: the reference's read answers the instruction that bytes begin with, or the error. Conditions: those that each theorem states. -/
import Derived.Test.YtohcpgoiclapjaaDoorIRr
import Derived.BigQuiet
import Derived.Deep.RegionWith
namespace Go.Proofs.YtohcpgoiclapjaaDoor
open Go.RowKit
set_option linter.unusedVariables false

theorem Ib.set0 {w : World} {m : Nat} {x : In} (h : Ib w m x) (v : Int) : Ib (w.setCell ⟨m, 0, none⟩ (.int .i64 v)) m ⟨v, x.a, x.b, x.c, x.v⟩ := by
  unfold Ib at h ⊢
  rw [heap_setCell_same w m 0 _ 42 _ h]
  rfl
theorem Ib.set123 {w : World} {m : Nat} {x : In} (h : Ib w m x) (a b c : Int) : Ib (((w.setCell ⟨m, 1, none⟩ (.int .i64 a)).setCell ⟨m, 2, none⟩ (.int .i64 b)).setCell ⟨m, 3, none⟩ (.int .i64 c)) m ⟨x.op, a, b, c, x.v⟩ := by
  unfold Ib at h ⊢
  have h1 := heap_setCell_same w m 1 _ 42 (.int .i64 a) h
  have h2 := heap_setCell_same _ m 2 _ 42 (.int .i64 b) h1
  have h3 := heap_setCell_same _ m 3 _ 42 (.int .i64 c) h2
  rw [h3]
  rfl
theorem Ib.set4 {w : World} {m : Nat} {x : In} (h : Ib w m x) (v : Int) : Ib (w.setCell ⟨m, 4, none⟩ (.int .i64 v)) m ⟨x.op, x.a, x.b, x.c, ⟨v, x.v.n, x.v.s⟩⟩ := by
  unfold Ib at h ⊢
  rw [heap_setCell_same w m 4 _ 42 _ h]
  rfl
theorem Ib.set5 {w : World} {m : Nat} {x : In} (h : Ib w m x) (v : Int) : Ib (w.setCell ⟨m, 5, none⟩ (.int .i64 v)) m ⟨x.op, x.a, x.b, x.c, ⟨x.v.k, v, x.v.s⟩⟩ := by
  unfold Ib at h ⊢
  rw [heap_setCell_same w m 5 _ 42 _ h]
  rfl
theorem Ib.set6 {w : World} {m : Nat} {x : In} (h : Ib w m x) (v : ByteArray) : Ib (w.setCell ⟨m, 6, none⟩ (.string v)) m ⟨x.op, x.a, x.b, x.c, ⟨x.v.k, x.v.n, v⟩⟩ := by
  unfold Ib at h ⊢
  rw [heap_setCell_same w m 6 _ 42 _ h]
  rfl
/-- The state within read: the reader at b, the answer's block q, the instruction x at m. -/
structure Rs (w0 w : World) (b q m : Nat) (s : ByteArray) (l : List UInt8) (e : Int) (x : In) : Prop where
  rt : Rt w b s l e
  iq : Ib w q zI
  im : Ib w m x
  gr : w0.grownBy w (some b)
  hq : w0.heap.size ≤ q
  hm : w0.heap.size ≤ m
  nq : b ≠ q
  nm : b ≠ m
  qm : q ≠ m
theorem Rs.read {w0 w w' : World} {b q m : Nat} {s : ByteArray} {l l' : List UInt8} {e e' : Int} {x : In} (h : Rs w0 w b q m s l e x) (hr : Rt w' b s l' e') (hg : w.grownBy w' (some b)) : Rs w0 w' b q m s l' e' x :=
  ⟨hr, h.iq.kept hg (by intro hh; exact h.nq (Option.some.inj hh).symm), h.im.kept hg (by intro hh; exact h.nm (Option.some.inj hh).symm), grown_trans h.gr hg (.inl rfl), h.hq, h.hm, h.nq, h.nm, h.qm⟩
/-- The instruction is stored into. -/
theorem Rs.put {w0 w w' : World} {b q m : Nat} {s : ByteArray} {l : List UInt8} {e : Int} {x x' : In} (h : Rs w0 w b q m s l e x) (hi : Ib w' m x') (hg : w.grownBy w' (some m)) : Rs w0 w' b q m s l e x' :=
  ⟨h.rt.kept hg (by intro hh; exact h.nm (Option.some.inj hh)), h.iq.kept hg (by intro hh; exact h.qm (Option.some.inj hh)), hi, grown_new h.gr hg (fun k hk => by cases hk; exact h.hm), h.hq, h.hm, h.nq, h.nm, h.qm⟩
theorem Rs.grow {w0 w w' : World} {b q m : Nat} {s : ByteArray} {l : List UInt8} {e : Int} {x : In} (h : Rs w0 w b q m s l e x) (hg : w.grownBy w' none) : Rs w0 w' b q m s l e x :=
  ⟨h.rt.kept hg (by simp), h.iq.kept hg (by simp), h.im.kept hg (by simp), grown_up h.gr hg, h.hq, h.hm, h.nq, h.nm, h.qm⟩
/-- Behind the store of the answer. -/
theorem Rs.done {w0 w : World} {b q m : Nat} {s : ByteArray} {l : List UInt8} {e : Int} {x : In} (h : Rs w0 w b q m s l e x) : Ib (put7 w q x) q x ∧ Rt (put7 w q x) b s l e ∧ w0.grownBy (put7 w q x) (some b) := by
  have hp := h.iq.put7 x
  exact ⟨hp.1, h.rt.kept hp.2 (by intro hh; exact h.nq (Option.some.inj hh)), grown_new h.gr hp.2 (fun k hk => by cases hk; exact h.hq)⟩
theorem Rs.doneD {w0 w : World} {b q m : Nat} {s : ByteArray} {l : List UInt8} {e : Int} {x : In} (h : Rs w0 w b q m s l e x) : Ib (put7 w q x).drew q x ∧ Rt (put7 w q x).drew b s l e ∧ w0.grownBy (put7 w q x).drew (some b) := by
  obtain ⟨h1, h2, h3⟩ := h.done
  generalize put7 w q x = W at *
  have hd : W.grownBy W.drew none := ⟨rfl, rfl, rfl, Nat.le_refl _, fun _ _ _ => rfl⟩
  exact ⟨h1.kept hd (by simp), h2.kept hd (by simp), grown_up h3 hd⟩
theorem Ib.newAt (w : World) (x : In) (g : Nat) (hg : w.heap.size = g) : Ib (w.alloc (.cells #[.int .i64 x.op, .int .i64 x.a, .int .i64 x.b, .int .i64 x.c, .int .i64 x.v.k, .int .i64 x.v.n, .string x.v.s] 42)) g x := by
  subst hg
  exact Ib.new w x
theorem rs_start (b : Nat) (s : ByteArray) (l : List UInt8) (e : Int) (w : World) (h : Rt w b s l e) : Rs w ((w.alloc (.cells #[.int .i64 0, .int .i64 0, .int .i64 0, .int .i64 0, .int .i64 0, .int .i64 0, .string ⟨#[]⟩] 42)).alloc (.cells #[.int .i64 0, .int .i64 0, .int .i64 0, .int .i64 0, .int .i64 0, .int .i64 0, .string ⟨#[]⟩] 42)) b w.heap.size (w.heap.size + 1) s l e zI := by
  have hg0 := World.grownBy_alloc w (.cells #[.int .i64 0, .int .i64 0, .int .i64 0, .int .i64 0, .int .i64 0, .int .i64 0, .string ⟨#[]⟩] 42) none
  have hg1 := World.grownBy_alloc (w.alloc (.cells #[.int .i64 0, .int .i64 0, .int .i64 0, .int .i64 0, .int .i64 0, .int .i64 0, .string ⟨#[]⟩] 42)) (.cells #[.int .i64 0, .int .i64 0, .int .i64 0, .int .i64 0, .int .i64 0, .int .i64 0, .string ⟨#[]⟩] 42) none
  have hb := h.lt
  exact ⟨(h.kept hg0 (by simp)).kept hg1 (by simp), (Ib.new w zI).kept hg1 (by simp), Ib.newAt (w.alloc (.cells #[.int .i64 0, .int .i64 0, .int .i64 0, .int .i64 0, .int .i64 0, .int .i64 0, .string ⟨#[]⟩] 42)) zI _ (by simp), grown_any (grown_up hg0 hg1), Nat.le_refl _, by omega, by omega, by omega, by omega⟩
theorem set1_grown (w : World) (m j : Nat) (v : Value) : w.grownBy (w.setCell ⟨m, j, none⟩ v) (some m) := grown_set w m j v

set_option maxRecDepth 100000 in
set_option maxHeartbeats 2000000 in
theorem rread1_bad (b : Nat) (s : ByteArray) (c : UInt8) (r : List UInt8) (w : World) (h : Rt w b s (c :: r) 0) (ho : opOk (c.toNat : Int) = false) :
    Calls Tryd.prog 26 #[.pointer (some ⟨b, 0, none⟩)] w fun e w' => ∃ (x : In) (er : Int), e = .returned (.tuple #[x.val, .int .i64 er]) ∧ RToldI w' b s (.error 4) x er ∧ w.grownBy w' (some b) := by
  have hS0 := rs_start b s (c :: r) 0 w h
  have hwb := wrap_byte c
  have ho2 : nOpI (c.toNat : Int) = 0 := by unfold nOpI; rw [ho]; rfl
  clear h
  go_enter Tryd.func26, Tryd.ntmps26
  go_wp2_with fail
  refine (rt_cons _ _ _ _ _ hS0.rt).mono ?_
  rintro x w1 ⟨rfl, hr1, hg1⟩
  have hS1 := hS0.read hr1 hg1
  clear hS0 hr1 hg1
  generalize w.heap.size + 1 = m at *
  generalize w.heap.size = q at *
  have c0 := hS1.im.cs.1
  have f0 := hS1.im.fz 0
  have hS2 := hS1.put (hS1.im.set0 (c.toNat : Int)) (set1_grown _ _ _ _)
  clear hS1
  go_upto_region 4 with fail
  try rw [hwb]
  generalize w1.setCell ⟨m, 0, none⟩ (.int .i64 (c.toNat : Int)) = w2 at *
  clear c0 f0
  obtain ⟨c0, c1, c2, c3, c4, c5, c6⟩ := hS2.im.cs
  go_wp2_with fail
  refine (roperands_any _ _).mono ?_
  rintro x w3 ⟨rfl, hw⟩
  obtain rfl := hw.symm
  rw [ho, ho2]
  have hD := hS2.done
  obtain ⟨d0, d1, d2, d3, d4, d5, d6⟩ := hS2.iq.cs
  have f0 := hS2.iq.fz 0; have f1 := hS2.iq.fz 1; have f2 := hS2.iq.fz 2; have f3 := hS2.iq.fz 3; have f4 := hS2.iq.fz 4; have f5 := hS2.iq.fz 5; have f6 := hS2.iq.fz 6
  clear hS2
  go_wp2_with fail
  refine bodyPost_ret (results_ib2 rfl _ q _ ⟨(c.toNat : Int), 0, 0, 0, zV⟩ _ rfl rfl hD.1) rfl ?_
  exact ⟨_, _, rfl, rfl, hD.2.2⟩

set_option maxRecDepth 100000 in
set_option maxHeartbeats 2000000 in
theorem rread1_good (b : Nat) (s : ByteArray) (c : UInt8) (r : List UInt8) (w : World) (h : Rt w b s (c :: r) 0) (ho : opOk (c.toNat : Int) = true) :
    Calls Tryd.prog 26 #[.pointer (some ⟨b, 0, none⟩)] w fun e w' => ∃ (x : In) (er : Int), e = .returned (.tuple #[x.val, .int .i64 er]) ∧ RToldI w' b s (pI (c :: r)) x er ∧ w.grownBy w' (some b) := by
  have hS0 := rs_start b s (c :: r) 0 w h
  have hwb := wrap_byte c
  have ho2 : nOpI (c.toNat : Int) = (nOps (c.toNat : Int) : Int) := by unfold nOpI; rw [ho]; rfl
  obtain ⟨nn, HN⟩ : ∃ nn : Nat, Hid (nOps (c.toNat : Int) = nn) := ⟨_, rfl⟩
  have hn3 : nn ≤ 3 := by have := HN.out; have := nOps_le (c.toNat : Int); omega
  have HO := hide ho
  have hbw := h.lt
  clear h
  go_enter Tryd.func26, Tryd.ntmps26
  go_wp2_with fail
  refine (rt_cons _ _ _ _ _ hS0.rt).mono ?_
  rintro x w1 ⟨rfl, hr1, hg1⟩
  have hS1 := hS0.read hr1 hg1
  clear hS0 hr1 hg1
  generalize w.heap.size + 1 = m at *
  generalize w.heap.size = q at *
  have c0 := hS1.im.cs.1
  have f0 := hS1.im.fz 0
  have hS2 := hS1.put (hS1.im.set0 (c.toNat : Int)) (set1_grown _ _ _ _)
  clear hS1
  go_upto_region 4 with fail
  try rw [hwb]
  generalize w1.setCell ⟨m, 0, none⟩ (.int .i64 (c.toNat : Int)) = w2 at *
  clear c0 f0
  have c0 := hS2.im.cs.1
  dsimp only at c0
  go_wp2_with fail
  refine (roperands_any _ _).mono ?_
  rintro x w3 ⟨rfl, hw⟩
  obtain rfl := hw.symm
  rw [ho, ho2, HN.out]
  clear ho ho2 hw c0
  have hga := World.grownBy_alloc w2 (.cells #[.int .i64 0, .int .i64 0, .int .i64 0] 3) none
  have hS3 := hS2.grow hga
  have hA : A3 (w2.alloc (.cells #[.int .i64 0, .int .i64 0, .int .i64 0] 3)) w2.heap.size 0 0 0 := heap_alloc_new w2 _
  have hO : Rpd (w2.alloc (.cells #[.int .i64 0, .int .i64 0, .int .i64 0] 3)) b w2.heap.size s r 0 := by
    refine .inl ⟨Nat.zero_le _, by rw [List.drop_zero]; exact hS3.rt, ?_⟩
    have e : ∀ i, atO r 0 i = 0 := fun i => by simp [atO]
    rw [e, e, e]
    exact hA
  have hbp : b ≠ w2.heap.size := by have := hS2.rt.lt; omega
  have hqp : q ≠ w2.heap.size := by have := hS2.iq.lt; omega
  have hmp : m ≠ w2.heap.size := by have := hS2.im.lt; omega
  have hpw : w.heap.size ≤ w2.heap.size := hS2.gr.size
  go_wp2_with fail
  obtain ⟨p, HP⟩ : ∃ p, Hid (w2.heap.size = p) := ⟨_, rfl⟩
  rw [HP.out] at hO hbp hqp hmp hpw ⊢
  have hq3 := hS3.iq
  have hm3 := hS3.im
  have hg3 := hS3.gr
  have HR : Hid (∀ (W : World) (l : List UInt8) (e : Int) (x : In), Rt W b s l e → Ib W q zI → Ib W m x → w.grownBy W (some b) → Rs w W b q m s l e x) := fun W l e x h1 h2 h3 h4 => ⟨h1, h2, h3, h4, hS3.hq, hS3.hm, hS3.nq, hS3.nm, hS3.qm⟩
  have hqm := hS3.qm
  have hnq := hS3.nq
  have hnm := hS3.nm
  clear hS2 hS3 hA hga
  go_loopw [9] (fun i wr => ∃ j : Nat, j ≤ nn ∧ i = .int .i64 j ∧ Rpd wr b p s r j ∧ Ib wr q zI ∧ Ib wr m ⟨(c.toNat : Int), 0, 0, 0, zV⟩ ∧ w.grownBy wr (some b)) (fun i _ => nn - (intOf i).toNat)
  case atStart => exact ⟨0, Nat.zero_le _, rfl, hO, hq3, hm3, hg3⟩
  case round =>
    clear hO hq3 hm3 hg3
    obtain ⟨j, hj, rfl, hO, hQ, hM, hg⟩ := hrel
    by_cases hlt : j < nn
    · have Hnum := hide (rpd_num hO (by omega) hbp)
      go_wp2_with fail
      refine Hnum.out.mono ?_
      rintro x w3 ⟨n, rfl, hg3, f3, ⟨u3, c3⟩, hO3⟩
      have hQ3 := hQ.kept hg3 (by simp; omega)
      have hM3 := hM.kept hg3 (by simp; omega)
      have hwn := wrap_byte n
      go_wp2_with fail
      try rw [hwn]
      have hst := grown_set w3 p j (.int .i64 (n.toNat : Int))
      refine ⟨⟨j + 1, by omega, by go_num, hO3, hQ3.kept hst (by simp; omega), hM3.kept hst (by simp; omega), grown_new (grown_trans hg hg3 (.inl rfl)) hst (fun k hk => by cases hk; omega)⟩, by simp [intOf]; omega⟩
    · obtain rfl : j = nn := by omega
      obtain ⟨l0, e0, xx, yy, zz, hR, hA, hcase⟩ := rpd_parts hO
      obtain ⟨a0, a1, a2⟩ := hA.cs
      have hS4 := HR.out _ _ _ _ hR hQ hM hg
      have c1 := hM.cs.2.1
      have c2 := hM.cs.2.2.1
      have c3 := hM.cs.2.2.2.1
      have f1 := hM.fz 1
      have f2 := hM.fz 2
      have f3 := hM.fz 3
      have hS5 := hS4.put (hS4.im.set123 xx yy zz) (grown_trans (grown_trans (grown_set _ _ _ _) (grown_set _ _ _ _) (.inl rfl)) (grown_set _ _ _ _) (.inl rfl))
      clear hS4 hO hQ hM hg hA hR
      go_upto_region 16 with fail
      generalize ((wr.setCell ⟨m, 1, none⟩ (.int .i64 xx)).setCell ⟨m, 2, none⟩ (.int .i64 yy)).setCell ⟨m, 3, none⟩ (.int .i64 zz) = w5 at *
      clear c1 c2 c3 f1 f2 f3 a0 a1 a2
      by_cases h1 : c = 1
      · subst h1
        have hn1 : j = 1 := by rw [← HN.out]; exact nOps1
        rcases hcase with ⟨h2, hl0, he0, hxx, hyy, hzz⟩ | ⟨h2, hl0, he0⟩
        · have H2 := hide h2
          have HX : Hid (∀ v q', pC (r.drop 1) = .ok (v, q') → pI (1 :: r) = .ok (⟨((1 : UInt8).toNat : Int), xx, yy, zz, v⟩, q')) := by
            intro v q' hp
            rw [pI_cons, HO.out, if_pos rfl, HN.out, if_neg (by omega), if_pos rfl, hp, hxx, hyy, hzz, hn1, (atO1 r).1, (atO1 r).2]
            rfl
          have HY : Hid (∀ e, pC (r.drop 1) = .error e → pI (1 :: r) = .error e) := by
            intro e hp
            rw [pI_cons, HO.out, if_pos rfl, HN.out, if_neg (by omega), if_pos rfl, hp]
          have hl1 : l0 = r.drop 1 := by rw [hl0, hn1]
          subst he0
          clear hl0 hxx hyy hzz h2
          rw [← hl1] at HX HY
          clear hl1 hn1
          have ce := hS5.rt.ce
          have c0 := hS5.im.cs.1
          dsimp only at c0
          go_wp2_with fail
          cases l0 with
          | nil =>
            have HE : Hid (∀ W, Rt W b s [] 2 → RToldI W b s (pI (1 :: r)) ⟨((1 : UInt8).toNat : Int), xx, yy, zz, zV⟩ 2) := by
              intro W hW
              rw [HY.out 2 rfl]
              exact rfl
            refine (rt_short b s 1 [] _ hS5.rt (by decide)).mono ?_
            rintro x w6 ⟨rfl, hr6, hg6⟩
            have hS6 := hS5.read hr6 hg6
            clear ce c0 hS5 hr6 hg6
            have hD := hS6.doneD
            have ce := hS6.rt.ce
            obtain ⟨c0, c1, c2, c3, c4, c5, c6⟩ := hS6.im.cs
            obtain ⟨d0, d1, d2, d3, d4, d5, d6⟩ := hS6.iq.cs
            have f0 := hS6.iq.fz 0; have f1 := hS6.iq.fz 1; have f2 := hS6.iq.fz 2; have f3 := hS6.iq.fz 3; have f4 := hS6.iq.fz 4; have f5 := hS6.iq.fz 5; have f6 := hS6.iq.fz 6
            dsimp only at c0 c1 c2 c3 c4 c5 c6
            clear HX hS6
            go_upto_region 20 with fail
            go_region
            go_wp2
            refine bodyPost_ret (results_ib2 rfl _ q _ ⟨((1 : UInt8).toNat : Int), xx, yy, zz, zV⟩ _ rfl rfl hD.1) rfl ?_
            exact ⟨_, _, rfl, HE.out _ hD.2.1, hD.2.2⟩
          | cons k r' =>
            have hwk := wrap_byte k
            refine (rt_cons b s k r' _ hS5.rt).mono ?_
            rintro x w6 ⟨rfl, hr6, hg6⟩
            have hS6 := hS5.read hr6 hg6
            clear ce c0 hS5 hr6 hg6
            have ce := hS6.rt.ce
            have c4 := hS6.im.cs.2.2.2.2.1
            have f4 := hS6.im.fz 4
            have hS7 := hS6.put (hS6.im.set4 (k.toNat : Int)) (set1_grown _ _ _ _)
            clear hS6
            go_upto_region 22 with fail
            try rw [hwk]
            generalize w6.setCell ⟨m, 4, none⟩ (.int .i64 (k.toNat : Int)) = w7 at *
            clear ce c4 f4
            have c4 := hS7.im.cs.2.2.2.2.1
            dsimp only at c4
            by_cases k1 : k = 1
            · subst k1
              by_cases h8 : r'.length < 8
              · have HE : Hid (∀ W, Rt W b s r' 2 → RToldI W b s (pI (1 :: r)) ⟨((1 : UInt8).toNat : Int), xx, yy, zz, ⟨((1 : UInt8).toNat : Int), 0, zV.s⟩⟩ 2) := by
                  intro W hW
                  rw [HY.out 2 (pC_short r' h8)]
                  exact rfl
                go_wp2_with fail
                refine (rt_short b s 8 r' _ hS7.rt (by rw [wid8]; exact h8)).mono ?_
                rintro x w8 ⟨rfl, hr8, hg8⟩
                have hS8 := hS7.read hr8 hg8
                clear hS7 hr8 hg8 c4
                have c5 := hS8.im.cs.2.2.2.2.2.1
                have f5 := hS8.im.fz 5
                have hS9 := hS8.put (hS8.im.set5 0) (set1_grown _ _ _ _)
                clear hS8
                go_upto_region 29 with fail
                generalize w8.setCell ⟨m, 5, none⟩ (.int .i64 0) = w9 at *
                clear c5 f5
                have hD := hS9.doneD
                have ce := hS9.rt.ce
                obtain ⟨c0, c1, c2, c3, c4, c5, c6⟩ := hS9.im.cs
                obtain ⟨d0, d1, d2, d3, d4, d5, d6⟩ := hS9.iq.cs
                have f0 := hS9.iq.fz 0; have f1 := hS9.iq.fz 1; have f2 := hS9.iq.fz 2; have f3 := hS9.iq.fz 3; have f4 := hS9.iq.fz 4; have f5 := hS9.iq.fz 5; have f6 := hS9.iq.fz 6
                dsimp only at c0 c1 c2 c3 c4 c5 c6
                clear h8 hS9
                go_upto_region 29 with fail
                go_region
                go_wp2
                refine bodyPost_ret (results_ib2 rfl _ q _ ⟨((1 : UInt8).toNat : Int), xx, yy, zz, ⟨((1 : UInt8).toNat : Int), 0, zV.s⟩⟩ _ rfl rfl hD.1) rfl ?_
                exact ⟨_, _, rfl, HE.out _ hD.2.1, hD.2.2⟩
              · have H8 : Hid (¬ r'.length < 8) := h8
                obtain ⟨N, HM⟩ : ∃ N : Int, Hid (wrap64 (val (r'.take 8) : Int) = N) := ⟨_, rfl⟩
                have HE : Hid (∀ W, Rt W b s (r'.drop 8) 0 → RToldI W b s (pI (1 :: r)) ⟨((1 : UInt8).toNat : Int), xx, yy, zz, ⟨((1 : UInt8).toNat : Int), N, zV.s⟩⟩ 0) := by
                  intro W hW
                  rw [HX.out _ _ (pC_int r' h8), HM.out]
                  exact ⟨rfl, rfl, hW⟩
                go_wp2_with fail
                refine (rt_ok b s 8 r' _ hS7.rt (by rw [wid8]; omega)).mono ?_
                rintro x w8 ⟨rfl, hr8, hg8⟩
                rw [wid8] at hr8 ⊢
                have hS8 := hS7.read hr8 hg8
                clear hS7 hr8 hg8 c4
                have c5 := hS8.im.cs.2.2.2.2.2.1
                have f5 := hS8.im.fz 5
                have hS9 := hS8.put (hS8.im.set5 N) (set1_grown _ _ _ _)
                clear hS8
                go_upto_region 29 with fail
                rw [HM.out]
                generalize w8.setCell ⟨m, 5, none⟩ (.int .i64 N) = w9 at *
                clear c5 f5
                have hD := hS9.doneD
                have ce := hS9.rt.ce
                obtain ⟨c0, c1, c2, c3, c4, c5, c6⟩ := hS9.im.cs
                obtain ⟨d0, d1, d2, d3, d4, d5, d6⟩ := hS9.iq.cs
                have f0 := hS9.iq.fz 0; have f1 := hS9.iq.fz 1; have f2 := hS9.iq.fz 2; have f3 := hS9.iq.fz 3; have f4 := hS9.iq.fz 4; have f5 := hS9.iq.fz 5; have f6 := hS9.iq.fz 6
                dsimp only at c0 c1 c2 c3 c4 c5 c6
                clear h8 hS9
                go_upto_region 29 with fail
                go_region
                go_wp2
                refine bodyPost_ret (results_ib2 rfl _ q _ ⟨((1 : UInt8).toNat : Int), xx, yy, zz, ⟨((1 : UInt8).toNat : Int), N, zV.s⟩⟩ _ rfl rfl hD.1) rfl ?_
                exact ⟨_, _, rfl, HE.out _ hD.2.1, hD.2.2⟩
            · by_cases k2 : k = 2
              · subst k2
                obtain ⟨R, HRR⟩ : ∃ R, Hid (strR (mkB r') 0 10 = R) := ⟨_, rfl⟩
                obtain ⟨SE, HSE⟩ : ∃ e, Hid (strE (mkB r') 0 10 = e) := ⟨_, rfl⟩
                have HE : Hid (∀ l', mkB l' = strS (mkB r') 0 10 → ∀ W, Rt W b s l' SE → RToldI W b s (pI (1 :: r)) ⟨((1 : UInt8).toNat : Int), xx, yy, zz, ⟨((2 : UInt8).toNat : Int), 0, R⟩⟩ SE) := by
                  intro l' hl' W hW
                  have e3 : pC (2 :: r') = pS r' := by rw [pC_cons, if_neg (by decide), if_pos rfl]
                  have hp := str_pS r'
                  rw [HRR.out, HSE.out, ← hl'] at hp
                  cases hq : pS r' with
                  | error er =>
                    rw [hq] at hp
                    rw [HY.out er (e3.trans hq)]
                    exact hp.1
                  | ok pq =>
                    obtain ⟨v0, q0⟩ := pq
                    rw [hq] at hp
                    obtain ⟨p1, p2, p3⟩ := hp
                    have hl : l' = q0 := by have := congrArg (fun t : ByteArray => t.data.toList) p2; simpa [mkB_list] using this
                    rw [HX.out _ _ (e3.trans hq), p1]
                    rw [hl, p3] at hW
                    exact ⟨rfl, p3, hW⟩
                go_wp2_with fail
                refine (rt_str b s r' _ hS7.rt).mono ?_
                rintro x w8 ⟨rfl, hg8, l', hl', hr8⟩
                rw [HRR.out]
                rw [HSE.out] at hr8
                replace HE := hide (HE.out l' hl')
                have hS8 := hS7.read hr8 hg8
                clear hS7 hr8 hg8 c4 hl'
                have c6 := hS8.im.cs.2.2.2.2.2.2
                have f6 := hS8.im.fz 6
                have hS9 := hS8.put (hS8.im.set6 R) (set1_grown _ _ _ _)
                clear hS8
                go_upto_region 29 with fail
                generalize w8.setCell ⟨m, 6, none⟩ (.string R) = w9 at *
                clear c6 f6
                have hD := hS9.doneD
                have ce := hS9.rt.ce
                obtain ⟨c0, c1, c2, c3, c4, c5, c6⟩ := hS9.im.cs
                obtain ⟨d0, d1, d2, d3, d4, d5, d6⟩ := hS9.iq.cs
                have f0 := hS9.iq.fz 0; have f1 := hS9.iq.fz 1; have f2 := hS9.iq.fz 2; have f3 := hS9.iq.fz 3; have f4 := hS9.iq.fz 4; have f5 := hS9.iq.fz 5; have f6 := hS9.iq.fz 6
                dsimp only at c0 c1 c2 c3 c4 c5 c6
                clear k1 hS9
                go_upto_region 29 with fail
                go_region
                go_wp2
                refine bodyPost_ret (results_ib2 rfl _ q _ ⟨((1 : UInt8).toNat : Int), xx, yy, zz, ⟨((2 : UInt8).toNat : Int), 0, R⟩⟩ _ rfl rfl hD.1) rfl ?_
                exact ⟨_, _, rfl, HE.out _ hD.2.1, hD.2.2⟩
              · have n1 : ((k.toNat : Int) == 1) = false := by
                  rw [beq_eq_false_iff_ne]
                  intro h
                  exact k1 (UInt8.toNat_inj.1 (by simp; omega))
                have n2 : ((k.toNat : Int) == 2) = false := by
                  rw [beq_eq_false_iff_ne]
                  intro h
                  exact k2 (UInt8.toNat_inj.1 (by simp; omega))
                have HE : Hid (RToldI (put7 w7 q ⟨((1 : UInt8).toNat : Int), xx, yy, zz, ⟨(k.toNat : Int), 0, zV.s⟩⟩) b s (pI (1 :: r)) ⟨((1 : UInt8).toNat : Int), xx, yy, zz, ⟨(k.toNat : Int), 0, zV.s⟩⟩ 4) := by
                  show RToldI _ _ _ _ _ _
                  rw [HY.out 4 (pC_bad k r' k1 k2)]
                  exact rfl
                have hD := hS7.done
                clear c4
                obtain ⟨c0, c1, c2, c3, c4, c5, c6⟩ := hS7.im.cs
                obtain ⟨d0, d1, d2, d3, d4, d5, d6⟩ := hS7.iq.cs
                have f0 := hS7.iq.fz 0; have f1 := hS7.iq.fz 1; have f2 := hS7.iq.fz 2; have f3 := hS7.iq.fz 3; have f4 := hS7.iq.fz 4; have f5 := hS7.iq.fz 5; have f6 := hS7.iq.fz 6
                dsimp only at c0 c1 c2 c3 c4 c5 c6
                clear k1 k2 hS7
                go_wp2_with fail
                refine bodyPost_ret (results_ib2 rfl _ q _ ⟨((1 : UInt8).toNat : Int), xx, yy, zz, ⟨(k.toNat : Int), 0, zV.s⟩⟩ _ rfl rfl hD.1) rfl ?_
                exact ⟨_, _, rfl, HE.out, hD.2.2⟩
        · have HE : Hid (∀ W, Rt W b s l0 e0 → RToldI W b s (pI (1 :: r)) ⟨((1 : UInt8).toNat : Int), xx, yy, zz, zV⟩ e0) := by
            intro W hW
            rw [pI_cons, HO.out, if_pos rfl, HN.out, if_pos h2]
            exact he0
          subst hl0 he0
          have hD := hS5.doneD
          have ce := hS5.rt.ce
          obtain ⟨c0, c1, c2, c3, c4, c5, c6⟩ := hS5.im.cs
          obtain ⟨d0, d1, d2, d3, d4, d5, d6⟩ := hS5.iq.cs
          have f0 := hS5.iq.fz 0; have f1 := hS5.iq.fz 1; have f2 := hS5.iq.fz 2; have f3 := hS5.iq.fz 3; have f4 := hS5.iq.fz 4; have f5 := hS5.iq.fz 5; have f6 := hS5.iq.fz 6
          dsimp only at c0 c1 c2 c3 c4 c5 c6
          clear hn1 hS5
          go_upto_region 17 with fail
          go_region
          go_wp2
          refine bodyPost_ret (results_ib2 rfl _ q _ ⟨((1 : UInt8).toNat : Int), xx, yy, zz, zV⟩ _ rfl rfl hD.1) rfl ?_
          exact ⟨_, _, rfl, HE.out _ hD.2.1, hD.2.2⟩
      · have h1' : ((c.toNat : Int) != 1) = true := by rw [bne_iff_ne]; exact fun hh => h1 (one_of c hh)
        have HE : Hid (∀ W, Rt W b s l0 e0 → RToldI W b s (pI (c :: r)) ⟨(c.toNat : Int), xx, yy, zz, zV⟩ e0) := by
          intro W hW
          rw [pI_cons, HO.out, if_pos rfl, HN.out, if_neg h1]
          rcases hcase with ⟨h2, rfl, rfl, rfl, rfl, rfl⟩ | ⟨h2, rfl, rfl⟩
          · rw [if_neg (by omega)]
            exact ⟨rfl, rfl, hW⟩
          · rw [if_pos h2]
            exact rfl
        have hD := hS5.doneD
        have ce := hS5.rt.ce
        obtain ⟨c0, c1, c2, c3, c4, c5, c6⟩ := hS5.im.cs
        obtain ⟨d0, d1, d2, d3, d4, d5, d6⟩ := hS5.iq.cs
        have f0 := hS5.iq.fz 0; have f1 := hS5.iq.fz 1; have f2 := hS5.iq.fz 2; have f3 := hS5.iq.fz 3; have f4 := hS5.iq.fz 4; have f5 := hS5.iq.fz 5; have f6 := hS5.iq.fz 6
        dsimp only at c0 c1 c2 c3 c4 c5 c6
        clear hcase h1 hS5
        go_upto_region 17 with fail
        go_region
        go_wp2
        refine bodyPost_ret (results_ib2 rfl _ q _ ⟨(c.toNat : Int), xx, yy, zz, zV⟩ _ rfl rfl hD.1) rfl ?_
        exact ⟨_, _, rfl, HE.out _ hD.2.1, hD.2.2⟩

end Go.Proofs.YtohcpgoiclapjaaDoor
