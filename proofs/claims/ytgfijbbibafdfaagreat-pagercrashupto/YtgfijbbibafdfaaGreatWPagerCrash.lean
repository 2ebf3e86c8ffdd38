/- The walk of the law PagerCrash. Conditions: those that the theorem states. -/
import Derived.Test.YtgfijbbibafdfaaGreatPAgain
namespace Go.Proofs.YtgfijbbibafdfaaGreat.pagerCrash
open Go.RowKit
set_option linter.unusedVariables false

set_option maxRecDepth 100000 in
set_option maxHeartbeats 12800000 in
theorem walk (n0 : Int) (a : Option Addr) (len cap : Nat) (L : List Bt) (a2 : Option Addr) (len2 cap2 : Nat) (cs : List Cr) (w : World) (hB : Sts Bt.cells 2 (fun b w' => b.ok w.heap.size w') w.heap.size w (.slice a len cap) L) (hC : Sts Cr.cells 4 (fun c w' => c.ok w.heap.size w') w.heap.size w (.slice a2 len2 cap2) cs) (hl : ∀ b ∈ L, b.ps.length ≤ 1048576) : Calls Tryz.prog 3 #[.int .i64 n0, .slice a len cap, .slice a2 len2 cap2] w fun e w' => e = .returned (.bool true) ∧ w.grownBy w' none := by
  obtain ⟨hlen, hcap, hcm⟩ : len = L.length ∧ L.length ≤ cap ∧ cap ≤ maxLen := by
    obtain ⟨a', c', h0, h1, h2, _⟩ := hB
    cases h0
    exact ⟨rfl, h1, h2⟩
  have hT := hB.take (min len 30) (by omega)
  have hTl : ∀ b ∈ L.take (min len 30), b.ps.length ≤ 1048576 := fun b hb => hl b (List.take_subset _ _ hb)
  have hTn : (L.take (min len 30)).length = min len 30 := by rw [List.length_take]; omega
  have hea := pearly_any a len cap
  clear hB hl
  obtain ⟨L2, HL2⟩ : ∃ L2, Hid (L.take (min len 30) = L2) := ⟨_, rfl⟩
  rw [HL2.out] at hT hTl hTn
  have hL30 : L2.length ≤ 30 := by omega
  rw [← hTn] at hT hea
  have hcl : len ≤ cap := by omega
  clear hTn hlen hcap
  obtain ⟨a', c', h0, _, _, hcs'⟩ := hT
  cases h0
  have hcs := hide hcs'
  clear hcs'
  have HC := hide hC
  obtain ⟨hl2, hcap2, hcm2⟩ : len2 = cs.length ∧ cs.length ≤ cap2 ∧ cap2 ≤ maxLen := by
    obtain ⟨a', c', h0, h1, h2, _⟩ := hC
    cases h0
    exact ⟨rfl, h1, h2⟩
  subst hl2
  have hcsm : cs.length ≤ 9223372036854775807 := Nat.le_trans hcap2 hcm2
  have HCE : Hid (∀ k (h : k < cs.length), ∃ b off, a2 = some ⟨b, off, none⟩ ∧ b < w.heap.size ∧ w.rangeAt b (off + k * 4) (cs[k].cells).toList ∧ cs[k].ok w.heap.size w) := by
    obtain ⟨a', c', h0, h1, h2, h3⟩ := hC
    cases h0
    exact h3
  clear hC
  have hnn := pagesN_le n0
  obtain ⟨n, HN⟩ : ∃ n, Hid (pagesN n0 = n) := ⟨_, rfl⟩
  rw [HN.out] at hnn
  have HW : Hid (wrap64 (126 + 4 * (n : Int)) = 126 + 4 * (n : Int)) := by show _ = _; unfold wrap64; omega
  go_enter Tryz.func3, Tryz.ntmps3
  go_upto_region 6 with (first
    | (go_at_call 4; refine (plives_any _).mono ?_; rintro e w1 ⟨rfl, hk1⟩)
    | (go_at_call 5; refine (pages_any _ _).mono ?_; rintro e w' ⟨rfl, rfl⟩; rw [HN.out])
    | (go_at_call 6; refine (hea _ hcl hcm).mono ?_; rintro e w' ⟨rfl, rfl⟩)
    | (go_at_call 8; refine (need_any _ _).mono ?_; rintro e w' ⟨rfl, rfl⟩; rw [HW.out])
    | (go_at_call 7; refine (new_any _ _).mono ?_; rintro e w2 ⟨p, rfl, hD2, hk2, hm2⟩)
    | fail)
  have hR2 := rest_new (n := n) (by omega) hD2
  have ho2 := rest_open hR2 (by omega) hnn.1 (by omega)
  have hmem : ∀ k, p.mem k → w.heap.size ≤ k := fun k hk => Nat.le_trans hk1.size (hm2 k hk)
  have hK2 := hk1.then hk2
  clear hD2 hR2 hm2 hk1 hk2 hea
  go_upto_region 7 with (first
    | (go_at_call 9; refine ho2.mono ?_; rintro e w3 ⟨gp, rfl, hR3, hP3, hgp3, hk3⟩)
    | fail)
  have hK3 := kpN hK2 hk3 hmem
  have hgpa : w.heap.size ≤ gp := Nat.le_trans hK2.size hgp3
  have hrn := prnew_any n w3 (by omega)
  clear ho2 hk3
  go_upto_region 10 with (first
    | (go_at_call 10; refine hrn.mono ?_; rintro e w5 ⟨r, rfl, hL5, hk5⟩)
    | fail)
  clear hrn
  have hlt3 := hR3.hd.lt
  have hgl3 := hP3.lt
  have hL5' : Pgl (fun k => ¬ p.mem k ∧ k ≠ gp) w5 r (List.replicate n (fillB 0)) := hL5.mono (fun k _ hk => ⟨fun h => by have := hlt3 k h; omega, by omega⟩)
  have hR5 := hR3.keptN hk5
  rw [← rep_pgF n] at hR5
  have hP5 := hP3.keptN hk5
  have hK5 := hK3.then hk5
  have hQ5 : ∀ x ∈ List.replicate n (fillB 0), x.size = 256 := fun x hx => by rw [(List.mem_replicate.1 hx).2]; exact fillB_size 0
  have hst5 : (fresh (126 + 4 * n)).st = false := rfl
  clear hR3 hP3 hK3 hL5 hK2 hk5 hlt3 hgl3
  generalize hF0 : fresh (126 + 4 * n) = F0 at *
  clear hF0
  go_upto_region 12 with fail
  go_loopw [8, 10, 11, 12] (fun pg q att t wr => ∃ (k r gp at' : Nat) (D : Dv) (Q : List ByteArray), k ≤ L2.length ∧ t = .int .i64 k ∧ pg = .pointer (some ⟨gp, 0, none⟩) ∧ q = .pointer (some ⟨r, 0, none⟩) ∧ att = .int .i64 at' ∧ at' ≤ k ∧ w.heap.size ≤ gp ∧ Rest wr p D n (pgF Q) ((k : Int) * 6300) ∧ D.st = false ∧ Pag wr gp p n 0 (.slice none 0 0) [] ∧ Pgl (fun j => ¬ p.mem j ∧ j ≠ gp) wr r Q ∧ Q.length = n ∧ (∀ x ∈ Q, x.size = 256) ∧ Kp none' w wr) (fun _ _ _ t _ => L2.length - (intOf t).toNat)
  case atStart => exact ⟨0, r, gp, 0, F0, List.replicate n (fillB 0), Nat.zero_le _, rfl, rfl, rfl, rfl, Nat.le_refl _, hgpa, by simpa using hR5, hst5, hP5, hL5', by rw [List.length_replicate], hQ5, hK5⟩
  case round =>
    obtain ⟨k, r', gp', at', D, Q, hk, rfl, rfl, rfl, rfl, hatk, hgp', hR, hst, hP, hPl, hQn, hQs, hK⟩ := hrel
    clear hR5 hP5 hL5' hK5 hQ5 hst5 hgpa hgp3
    by_cases hlt : k < L2.length
    · have hki : (k : Int) < (L2.length : Int) := by omega
      obtain ⟨b, o, rfl, hbb, hra, hbo⟩ := hcs.out k hlt
      have hbl := hTl L2[k] (List.getElem_mem hlt)
      generalize L2[k] = bt at *
      obtain ⟨pv, ps, bv, bs⟩ := bt
      have hbo' := hbo.keptN hK
      obtain ⟨pa, pc, hpv⟩ : ∃ a c, pv = .slice a ps.length c := by obtain ⟨a, c, h, _⟩ := hbo.hp; exact ⟨a, c, h⟩
      obtain ⟨va, vc, hbv⟩ : ∃ a c, bv = .slice a bs.length c := by obtain ⟨a, c, h, _⟩ := hbo.hb; exact ⟨a, c, h⟩
      subst hpv hbv
      have d0 := hK.cell (hra 0 _ rfl) (fun h => h)
      have d1 := hK.cell (hra 1 _ rfl) (fun h => h)
      rw [Nat.add_zero] at d0
      have hch := changes_any ⟨.slice pa ps.length pc, ps, .slice va bs.length vc, bs⟩ w.heap.size wr hbo' hK.size hbl
      rw [show (Bt.cells ⟨.slice pa ps.length pc, ps, .slice va bs.length vc, bs⟩) = #[.slice pa ps.length pc, .slice va bs.length vc] from rfl] at hch
      dsimp only at hch
      have hi64 : i64s ps := hbo.hi
      have hdl := chgL_size ps bs
      have hpg : (chgL ps bs).map Chg.page = ps := chgL_pages ps bs
      obtain ⟨l, HL⟩ : ∃ l, Hid (chgL ps bs = l) := ⟨_, rfl⟩
      rw [HL.out] at hdl hpg hch
      have hil : i64s (l.map Chg.page) := by rw [hpg]; exact hi64
      clear hra hbo hbo'
      go_upto_region 15 with (first
        | (go_at_call 11; refine hch.mono ?_; rintro e w4 ⟨x, y, rfl, hx, hy, hk4⟩; obtain ⟨sxa, sxc, rfl⟩ := hx.chs.shape; obtain ⟨ya, yc, rfl⟩ := hy.chs.shape)
        | fail)
      clear hch d0 d1
      have hltr := hR.hd.lt
      have hglr := hP.lt
      have hx4 : Chs (fun k => ¬ p.mem k ∧ k ≠ gp') w4 _ l := hx.chs.mono (fun k _ hk => ⟨fun h => by have := hltr k h; omega, by omega⟩)
      have hy4 : Chs (fun k => ¬ p.mem k ∧ k ≠ gp') w4 _ l := hy.chs.mono (fun k _ hk => ⟨fun h => by have := hltr k h; omega, by omega⟩)
      have hR4 := hR.keptN hk4
      have hP4 := hP.keptN hk4
      have hPl4 := hPl.keptN hk4
      have hK4 := hK.then hk4
      have hri := right_any r' _ _ Q _ l w4 hPl4 hy4 hdl (by omega)
      rw [hQn] at hri
      obtain ⟨E, HE⟩ : ∃ E, Hid (rightE n l = E) := ⟨_, rfl⟩
      rw [HE.out] at hri
      clear hx hy hR hP hPl hk4 hltr hglr
      by_cases hE : E = 0
      · have hok := right_ok (by rw [HE.out]; exact hE) hdl
        have hp := hok.p
        have hm31 := hok.m
        have hE' : (E != 0) = false := by simp [hE]
        go_upto_region 16 with (first
          | (go_at_call 12; refine hri.mono ?_; rintro e w7 ⟨rfl, hk7⟩)
          | fail)
        have hwi := with_any r' _ _ Q _ l w7 (hPl4.keptN hk7) (hy4.keptN hk7) (by rw [hQn]; exact hp) (by omega) (by omega) hm31
        have hq : pgF (withL Q l) = withC (pgF Q) l := withL_pgF l Q (by rw [hQn]; exact hp)
        have hql : (withL Q l).length = n := by rw [withL_len, hQn]
        have hqs := withL_sizes (Q := Q) (l := l) hQs hdl
        obtain ⟨Q2, HQ2⟩ : ∃ Q2, Hid (withL Q l = Q2) := ⟨_, rfl⟩
        rw [HQ2.out] at hwi hql hqs hq
        go_upto_region 17 with (first
          | (go_at_call 13; refine hwi.mono ?_; rintro e w9 ⟨r9, rfl, hL9, hk9⟩)
          | fail)
        have hR7 := hR4.keptN hk7
        have hP7 := hP4.keptN hk7
        have hlt7 := hR7.hd.lt
        have hgl7 := hP7.lt
        have hL9' : Pgl (fun j => ¬ p.mem j ∧ j ≠ gp') w9 r9 Q2 := hL9.mono (fun j _ hj => ⟨fun h => by have := hlt7 j h; omega, by omega⟩)
        have hR9 := hR7.keptN hk9
        have hP9 := hP7.keptN hk9
        have hPl9 := (hPl4.keptN hk7).keptN hk9
        have hx9 := (hx4.keptN hk7).keptN hk9
        have hK9 := (hK4.then hk7).then hk9
        have hgcm : ¬ p.mem w9.heap.size := fun h => by have := hR9.hd.lt _ h; omega
        have hgcg : w9.heap.size ≠ gp' := by have := hP9.lt; omega
        have hka := Kp.alloc none' w9 (.cells #[.int .i64 (-1), .int .i64 0, .int .i64 0, .slice none 0 0] 47)
        have hbk : (w9.alloc (.cells #[.int .i64 (-1), .int .i64 0, .int .i64 0, .slice none 0 0] 47)).heap[w9.heap.size]? = some (.cells #[.int .i64 (-1), .int .i64 0, .int .i64 0, .slice none 0 0] 47 (0, 0)) := heap_alloc_new w9 _
        clear hri hwi hR4 hP4 hPl4 hx4 hy4 hK4 hk7 hR7 hP7 hlt7 hgl7 hL9 hk9
        go_upto_region 18 with fail
        obtain ⟨w10, H10⟩ : ∃ w10, Hid (w9.alloc (.cells #[.int .i64 (-1), .int .i64 0, .int .i64 0, .slice none 0 0] 47) = w10) := ⟨_, rfl⟩
        rw [H10.out] at hka hbk ⊢
        obtain ⟨gc, HGC⟩ : ∃ gc, Hid (w9.heap.size = gc) := ⟨_, rfl⟩
        rw [HGC.out] at hgcm hgcg hbk ⊢
        have hkw10 := hK9.then hka
        by_cases hat : at' < cs.length
        · have hati : (at' : Int) < (cs.length : Int) := by omega
          obtain ⟨bb, ob, rfl, _, hra, hok'⟩ := HCE.out at' hat
          generalize cs[at'] = cr at *
          obtain ⟨xa, xt, xc, xk, xl⟩ := cr
          obtain ⟨ka, kc, hkv⟩ : ∃ a c, xk = .slice a xl.length c := by obtain ⟨a, c, h, _⟩ := hok'; exact ⟨a, c, h⟩
          subst hkv
          have z0 := hkw10.cell (hra 0 _ rfl) (fun h => h)
          have z1 := hkw10.cell (hra 1 _ rfl) (fun h => h)
          have z2 := hkw10.cell (hra 2 _ rfl) (fun h => h)
          have z3 := hkw10.cell (hra 3 _ rfl) (fun h => h)
          rw [Nat.add_zero] at z0
          have hsl : Sl Value.bool w.heap.size w (.slice ka xl.length kc) xl := hok'
          obtain ⟨y0, y1, y2, y3, y4, y5, y6, y7, y8⟩ := store4 hbk (.int .i64 xa) (.int .i64 xt) (.int .i64 xc) (.slice ka xl.length kc)
          have p0 := y0.1
          have p1 := y0.2
          have p2 := y1.1
          have p3 := y1.2
          have p4 := y2.1
          have p5 := y2.2
          have p6 := y3.1
          have p7 := y3.2
          have HYY := hide (And.intro y4 (And.intro y5 (And.intro y6 (And.intro y7 y8))))
          clear y0 y1 y2 y3 y4 y5 y6 y7 y8 hra hok'
          go_upto_region 20 with fail
          obtain ⟨w11, H11⟩ : ∃ w11, Hid ((((w10.setCell ⟨gc, 0, none⟩ (.int .i64 xa)).setCell ⟨gc, 1, none⟩ (.int .i64 xt)).setCell ⟨gc, 2, none⟩ (.int .i64 xc)).setCell ⟨gc, 3, none⟩ (.slice ka xl.length kc) = w11) := ⟨_, rfl⟩
          rw [H11.out] at HYY ⊢
          obtain ⟨v0, v1, v2, v3, hk1011⟩ := HYY.out
          have hk911 : Kp none' w9 w11 := hka.trans hk1011 (fun _ _ h => h) (fun j hj h => absurd hj (by have := HGC.out; unfold only at h; omega))
          clear p0 p1 p2 p3 p4 p5 p6 p7 z0 z1 z2 z3 HYY hk1011 hbk
          have hR11 := hR9.keptN hk911
          have hP11 := hP9.keptN hk911
          have hPl11 := hPl9.keptN hk911
          have hL11 := hL9'.keptN hk911
          have hx11 := hx9.keptN hk911
          have hK11 := hK9.then hk911
          have hst11 := stop_any p D xa w11 hR11.hd hR11.c0 (Int.le_trans hR11.c1 (by omega))
          have HC0 := hR11.c0
          have HC1 := hR11.c1
          clear hR9 hP9 hPl9 hL9' hx9 hK9 hka hkw10
          go_upto_region 22 with (first
            | (go_at_call 14; refine hst11.mono ?_; rintro e w12 ⟨rfl, hD12, hk12⟩)
            | fail)
          obtain ⟨s1, s2, s3, s4⟩ := stop_same D xa
          have hR12 : Rest w12 p (D.stop xa) n (pgF Q) ((k : Int) * 6300) := ⟨hD12, by rw [s3]; exact hR11.hn, fun j => by rw [s2]; exact hR11.hu j, by rw [s1]; exact hR11.hc, by rw [s4]; exact HC0, by rw [s4]; exact HC1⟩
          have hmk : ∀ j, (¬ p.mem j ∧ j ≠ gp') → ¬ p.mem j := fun j h => h.1
          have hmk2 : ∀ j, (¬ p.mem j ∧ j ≠ gp') → ¬ (p.mem j ∨ j = gp') := fun j h h' => by rcases h' with h' | h'; exact h.1 h'; exact h.2 h'
          have hKg : ∀ j, (p.mem j ∨ j = gp') → w.heap.size ≤ j := fun j hj => by rcases hj with h | h; exact hmem j h; rw [h]; exact hgp'
          have hgc2 : ¬ (p.mem gc ∨ gc = gp') := fun h' => by rcases h' with h' | h'; exact hgcm h'; exact hgcg h'
          have hP12 := hP11.kept hk12
          have hx12 := hx11.kept hk12 hmk
          have hL12 := hL11.kept hk12 hmk
          have hPl12 := hPl11.kept hk12 hmk
          have hK12 := kpN hK11 hk12 hmem
          have u1 := hk12.cell v1 hgcm
          have u2 := hk12.cell v2 hgcm
          have u3 := hk12.cell v3 hgcm
          have hco := commit_stop hR12 (by omega) (by omega) (pgF_size hQs) hP12 (hx12.mono (fun _ _ h => h.1)) hok (by omega) (by omega)
          clear hst11 s1 s2 s3 s4 v0 v1 v2 v3 hR11 hP11 hPl11 hL11 hx11 hK11 hk12 hD12
          go_upto_region 23 with (first
            | (go_at_call 15; refine hco.mono ?_; rintro e w13 ⟨D13, F, bv', bl, rfl, hD13, hn13, hc13a, hc13b, hk13, hbl31, hor⟩)
            | fail)
          clear hco
          have hL13 := hL12.kept hk13 hmk2
          have hPl13 := hPl12.kept hk13 hmk2
          have hx13 := hx12.kept hk13 hmk2
          have hK13 := kpN hK12 hk13 hKg
          have q1 := hk13.cell u1 hgc2
          have q2 := hk13.cell u2 hgc2
          have q3 := hk13.cell u3 hgc2
          clear hL12 hPl12 hx12 hK12 u1 u2 u3 hk13 hR12 hP12
          rcases hor with ⟨hF, hblE, hbvE, hCl, hU, c', hc'0, hc'1, hP13⟩ | ⟨hF, hbl0, hP13, hrd, hAf⟩
          · subst hF
            subst hblE
            have hR13 : Rest w13 p D13 n (pgF Q2) ((k : Int) * 6300 + 300) := ⟨hD13, hn13, hU, by rw [hq]; exact hCl, hc13a, hc13b⟩
            have hsm := rest_same (D := D13) (Q := Q2) (g := gp') (r := r9) (m := (k : Int) * 6300 + 300) (by rw [hql]; exact hR13) (by omega) hqs (by rw [hql]; exact hP13) hL13
            go_upto_region 29 with (first
              | (go_at_call 16; refine hsm.mono ?_; rintro e w14 ⟨rfl, hk14⟩)
              | fail)
            have m1 := hk14.cell q1 (fun h => h)
            have m2 := hk14.cell q2 (fun h => h)
            have m3 := hk14.cell q3 (fun h => h)
            have hK14 := hK13.then hk14
            have hcr := crash_any p D13 _ xl xt xc w.heap.size w14 (hD13.keptN hk14) hc13a (by omega) (hsl.kept hK14 (fun _ _ h => h)) hmem
            go_upto_region 30 with (first
              | (go_at_call 17; refine hcr.mono ?_; rintro e w15 ⟨rfl, hD15, hk15⟩)
              | fail)
            have hK15 := kpN hK14 hk15 hmem
            have hM15 : Mend w15 p (D13.crash xl xt xc) n (pgF Q2) ((k : Int) * 6300 + 300) := ⟨hD15, hn13, fun _ => rfl, .inl (crash_clean hn13 hU (by rw [hq]; exact hCl) xl xt xc), rfl, hc13a, hc13b⟩
            have hC15 := HC.out.kept hK15 (fun _ _ h => h) (fun x hx => Cr.ok.kept hx hK15 (fun _ _ h => h))
            have hag := again_any p _ n (pgF Q2) _ _ cs.length cap2 cs w.heap.size w15 hM15 (by omega) hnn.1 (by omega) (pgF_size hqs) hC15 hmem
            have hL15 : Pgl (fun j => (¬ p.mem j ∧ j ≠ gp') ∧ j < w15.heap.size) w15 r9 Q2 := ((hL13.keptN hk14).kept hk15 hmk).mono (fun j hj h => ⟨h, hj⟩)
            clear hcr hsm m1 m2 m3 q1 q2 q3 hC15 hM15 hR13 hPl13 hx13
            go_upto_region 31 with (first
              | (go_at_call 18; refine hag.mono ?_; rintro e w16 ⟨g16, D16, rfl, hR16, hst16, hP16, hg16, hk16⟩)
              | fail)
            have hL16 : Pgl (fun j => ¬ p.mem j ∧ j ≠ g16) w16 r9 Q2 := (hL15.kept hk16 (fun j h => h.1.1)).mono (fun j _ h => ⟨h.1.1, by omega⟩)
            have hK16 := kpN hK15 hk16 hmem
            have hg16w : w.heap.size ≤ g16 := Nat.le_trans hK15.size hg16
            have hsm := rest_same (D := D16) (Q := Q2) (g := g16) (r := r9) (m := (k : Int) * 6300 + 300 + 6000) (by rw [hql]; exact hR16) (by omega) hqs (by rw [hql]; exact hP16) hL16
            clear hag hL15
            go_wp2_with (first
              | (go_at_call 16; refine hsm.mono ?_; rintro e w17 ⟨rfl, hk17⟩)
              | fail)
            go_roundw
            case rel => exact ⟨k + 1, r9, g16, at' + 1, D16, Q2, by omega, by go_num, rfl, rfl, by go_num, by omega, hg16w, (hR16.keptN hk17).less (by omega), hst16, hP16.keptN hk17, hL16.keptN hk17, hql, hqs, hK16.then hk17⟩
            case measure => simp [intOf]; omega
          · subst hF
            have hsame := same_any gp' r' p D13 0 bv' bl _ Q w13 (by rw [hQn]; exact hP13) hD13 hPl13 (by rw [hQn, hn13]; exact Nat.le_refl _) (by omega) (by omega)
            rw [same_true (D := D13) (bl := bl) (Q := Q) (fun i hi => hrd i (by omega))] at hsame
            have hcn : ∀ W : World, Kp none' w13 W → Calls Tryz.prog 15 #[.pointer (some ⟨gp', 0, none⟩), .slice sxa l.length sxc] W fun e w' => e = .returned (.int .i64 13) ∧ Kp none' W w' := fun W hW => by
              have hr13 : refE n bl l = 13 := by unfold refE; rw [if_pos hbl0]
              have := commit_no gp' n p 0 bv' bl _ l _ W (hP13.keptN hW) hbl31 (hx13.keptN hW) hil (.inl (by rw [hr13]; decide))
              rw [hr13] at this
              exact this
            have HCN := hide hcn
            clear hcn
            go_upto_region 29 with (first
              | (go_at_call 16; refine hsame.mono ?_; rintro e w14 ⟨rfl, hk14⟩)
              | (go_at_call 15; refine (HCN.out _ hk14).mono ?_; rintro e w14b ⟨rfl, hk14b⟩)
              | fail)
            have hk1 := hk14.then hk14b
            have m1 := hk1.cell q1 (fun h => h)
            have m2 := hk1.cell q2 (fun h => h)
            have m3 := hk1.cell q3 (fun h => h)
            have hK14 := hK13.then hk1
            have hcr := crash_any p D13 _ xl xt xc w.heap.size w14b (hD13.keptN hk1) hc13a (by omega) (hsl.kept hK14 (fun _ _ h => h)) hmem
            go_upto_region 30 with (first
              | (go_at_call 17; refine hcr.mono ?_; rintro e w15 ⟨rfl, hD15, hk15⟩)
              | fail)
            have hK15 := kpN hK14 hk15 hmem
            have hC15 := HC.out.kept hK15 (fun _ _ h => h) (fun x hx => Cr.ok.kept hx hK15 (fun _ _ h => h))
            have hL15 : Pgl (fun j => (¬ p.mem j ∧ j ≠ gp') ∧ j < w15.heap.size) w15 r9 Q2 := ((hL13.keptN hk1).kept hk15 hmk).mono (fun j hj h => ⟨h, hj⟩)
            have hPl15 : Pgl (fun j => (¬ p.mem j ∧ j ≠ gp') ∧ j < w15.heap.size) w15 r' Q := ((hPl13.keptN hk1).kept hk15 hmk).mono (fun j hj h => ⟨h, hj⟩)
            have hrec := hAf _ (crash_after D13 xl xt xc)
            rw [← hq] at hrec
            clear hcr hsame m1 m2 m3 q1 q2 q3 hx13 hPl13 HCN hP13 hrd hAf hL13
            rcases hrec with hrec | hrec
            · have hM15 : Mend w15 p (D13.crash xl xt xc) n (pgF Q) ((k : Int) * 6300 + 300) := ⟨hD15, hn13, fun _ => rfl, hrec, rfl, hc13a, hc13b⟩
              have hag := again_any p _ n (pgF Q) _ _ cs.length cap2 cs w.heap.size w15 hM15 (by omega) hnn.1 (by omega) (pgF_size hQs) hC15 hmem
              go_upto_region 31 with (first
                | (go_at_call 18; refine hag.mono ?_; rintro e w16 ⟨g16, D16, rfl, hR16, hst16, hP16, hg16, hk16⟩)
                | fail)
              have hL16 : Pgl (fun j => ¬ p.mem j ∧ j ≠ g16) w16 r9 Q2 := (hL15.kept hk16 (fun j h => h.1.1)).mono (fun j _ h => ⟨h.1.1, by omega⟩)
              have hPl16 : Pgl (fun j => ¬ p.mem j ∧ j ≠ g16) w16 r' Q := (hPl15.kept hk16 (fun j h => h.1.1)).mono (fun j _ h => ⟨h.1.1, by omega⟩)
              have hK16 := kpN hK15 hk16 hmem
              have hg16w : w.heap.size ≤ g16 := Nat.le_trans hK15.size hg16
              have hsN : ∀ W : World, Kp none' w16 W → Calls Tryz.prog 16 #[.pointer (some ⟨g16, 0, none⟩), .pointer (some ⟨r9, 0, none⟩)] W fun e w' => e = .returned (.bool (sameB D16 [] Q2)) ∧ Kp none' W w' := fun W hW => same_any g16 r9 p D16 0 _ [] _ Q2 W (by rw [hql]; exact hP16.keptN hW) (hR16.hd.keptN hW) (hL16.keptN hW) (by rw [hql, hR16.hn]; exact Nat.le_refl _) (by omega) (by simp)
              have hsQ : ∀ W : World, Kp none' w16 W → Calls Tryz.prog 16 #[.pointer (some ⟨g16, 0, none⟩), .pointer (some ⟨r', 0, none⟩)] W fun e w' => e = .returned (.bool true) ∧ Kp none' W w' := fun W hW => rest_same (D := D16) (Q := Q) (g := g16) (r := r') (m := (k : Int) * 6300 + 300 + 6000) (by rw [hQn]; exact hR16.keptN hW) (by omega) hQs (by rw [hQn]; exact hP16.keptN hW) (hPl16.keptN hW)
              have hcong : sameB D16 [] Q2 = true → Clean n D16.s (pgF Q2) := fun hb => clean_congr hR16.hc (fun i hi => by
                unfold sameB at hb
                rw [decide_eq_true_iff] at hb
                have h1 := hb i (by omega)
                rw [show rdP D16 [] i = lookS D16 (placeN i) from rfl, clean_look hR16.hu hR16.hc (pgF_size hQs) i hi] at h1
                rw [h1, pgF_at Q2 i (by omega)])
              have HSN := hide hsN
              have HSQ := hide hsQ
              have HCG := hide hcong
              clear hag hL15 hPl15 hM15 hC15 hsN hsQ hcong hrec
              cases hb : sameB D16 [] Q2 with
              | true =>
                rw [hb] at HSN
                go_upto_region 33 with fail
                go_upto_region 35 with (first
                  | (go_at_call 16; refine (HSN.out _ (Kp.refl _ _)).mono ?_; rintro e w17 ⟨rfl, hk17⟩)
                  | fail)
                go_wp2_with (first
                  | (go_at_call 16; refine (HSN.out _ hk17).mono ?_; rintro e w18 ⟨rfl, hk18⟩)
                  | fail)
                have hk2 := hk17.then hk18
                have hRn : Rest w18 p D16 n (pgF Q2) (((k + 1 : Nat) : Int) * 6300) := ⟨hR16.hd.keptN hk2, hR16.hn, hR16.hu, HCG.out hb, hR16.c0, Int.le_trans hR16.c1 (by omega)⟩
                go_roundw
                case rel => exact ⟨k + 1, r9, g16, at' + 1, D16, Q2, by omega, by go_num, rfl, rfl, by go_num, by omega, hg16w, hRn, hst16, hP16.keptN hk2, hL16.keptN hk2, hql, hqs, hK16.then hk2⟩
                case measure => simp [intOf]; omega
              | false =>
                rw [hb] at HSN
                go_upto_region 33 with fail
                go_upto_region 35 with (first
                  | (go_at_call 16; refine (HSN.out _ (Kp.refl _ _)).mono ?_; rintro e w17 ⟨rfl, hk17⟩)
                  | fail)
                go_wp2_with (first
                  | (go_at_call 16; refine (HSQ.out _ hk17).mono ?_; rintro e w18 ⟨rfl, hk18⟩)
                  | fail)
                have hk2 := hk17.then hk18
                go_roundw
                case rel => exact ⟨k + 1, r', g16, at' + 1, D16, Q, by omega, by go_num, rfl, rfl, by go_num, by omega, hg16w, (hR16.keptN hk2).less (by omega), hst16, hP16.keptN hk2, hPl16.keptN hk2, hQn, hQs, hK16.then hk2⟩
                case measure => simp [intOf]; omega
            · have hM15 : Mend w15 p (D13.crash xl xt xc) n (pgF Q2) ((k : Int) * 6300 + 300) := ⟨hD15, hn13, fun _ => rfl, hrec, rfl, hc13a, hc13b⟩
              have hag := again_any p _ n (pgF Q2) _ _ cs.length cap2 cs w.heap.size w15 hM15 (by omega) hnn.1 (by omega) (pgF_size hqs) hC15 hmem
              go_upto_region 31 with (first
                | (go_at_call 18; refine hag.mono ?_; rintro e w16 ⟨g16, D16, rfl, hR16, hst16, hP16, hg16, hk16⟩)
                | fail)
              have hL16 : Pgl (fun j => ¬ p.mem j ∧ j ≠ g16) w16 r9 Q2 := (hL15.kept hk16 (fun j h => h.1.1)).mono (fun j _ h => ⟨h.1.1, by omega⟩)
              have hK16 := kpN hK15 hk16 hmem
              have hg16w : w.heap.size ≤ g16 := Nat.le_trans hK15.size hg16
              have hsN : ∀ W : World, Kp none' w16 W → Calls Tryz.prog 16 #[.pointer (some ⟨g16, 0, none⟩), .pointer (some ⟨r9, 0, none⟩)] W fun e w' => e = .returned (.bool true) ∧ Kp none' W w' := fun W hW => rest_same (D := D16) (Q := Q2) (g := g16) (r := r9) (m := (k : Int) * 6300 + 300 + 6000) (by rw [hql]; exact hR16.keptN hW) (by omega) hqs (by rw [hql]; exact hP16.keptN hW) (hL16.keptN hW)
              have HSN := hide hsN
              clear hag hL15 hPl15 hM15 hC15 hsN hrec
              go_upto_region 33 with fail
              go_upto_region 35 with (first
                | (go_at_call 16; refine (HSN.out _ (Kp.refl _ _)).mono ?_; rintro e w17 ⟨rfl, hk17⟩)
                | fail)
              go_wp2_with (first
                | (go_at_call 16; refine (HSN.out _ hk17).mono ?_; rintro e w18 ⟨rfl, hk18⟩)
                | fail)
              have hk2 := hk17.then hk18
              go_roundw
              case rel => exact ⟨k + 1, r9, g16, at' + 1, D16, Q2, by omega, by go_num, rfl, rfl, by go_num, by omega, hg16w, (hR16.keptN hk2).less (by omega), hst16, hP16.keptN hk2, hL16.keptN hk2, hql, hqs, hK16.then hk2⟩
              case measure => simp [intOf]; omega
        · have hati : ¬ (at' : Int) < (cs.length : Int) := by omega
          go_upto_region 20 with fail
          obtain ⟨w11, H11⟩ : ∃ w11, Hid (w10 = w11) := ⟨_, rfl⟩
          rw [H11.out] at hka hbk ⊢
          have v0 : w11.cell? ⟨gc, 0, none⟩ = some (.int .i64 (-1)) := by rw [cell_of_row _ _ _ _ _ _ hbk]; rfl
          have v1 : w11.cell? ⟨gc, 1, none⟩ = some (.int .i64 0) := by rw [cell_of_row _ _ _ _ _ _ hbk]; rfl
          have v2 : w11.cell? ⟨gc, 2, none⟩ = some (.int .i64 0) := by rw [cell_of_row _ _ _ _ _ _ hbk]; rfl
          have v3 : w11.cell? ⟨gc, 3, none⟩ = some (.slice none ([] : List Bool).length 0) := by rw [cell_of_row _ _ _ _ _ _ hbk]; rfl
          have hsl : Sl Value.bool w.heap.size w (.slice none ([] : List Bool).length 0) [] := Sl.nil _ _ _
          have hk911 : Kp none' w9 w11 := hka
          obtain ⟨xa, HXA⟩ : ∃ xa : Int, Hid ((-1 : Int) = xa) := ⟨_, rfl⟩
          obtain ⟨xt, HXT⟩ : ∃ xt : Int, Hid ((0 : Int) = xt) := ⟨_, rfl⟩
          obtain ⟨xl, HXL⟩ : ∃ xl : List Bool, Hid ([] = xl) := ⟨_, rfl⟩
          obtain ⟨ka, HKA⟩ : ∃ ka : Option Addr, Hid (none = ka) := ⟨_, rfl⟩
          obtain ⟨kc, HKC⟩ : ∃ kc : Nat, Hid (0 = kc) := ⟨_, rfl⟩
          rw [HXA.out] at v0
          rw [HXT.out] at v1 v2
          rw [HXL.out, HKA.out, HKC.out] at v3 hsl
          obtain ⟨xc, hxc⟩ : ∃ xc : Int, xt = xc := ⟨_, rfl⟩
          rw [hxc] at v2
          clear hxc hbk
          have hR11 := hR9.keptN hk911
          have hP11 := hP9.keptN hk911
          have hPl11 := hPl9.keptN hk911
          have hL11 := hL9'.keptN hk911
          have hx11 := hx9.keptN hk911
          have hK11 := hK9.then hk911
          have hst11 := stop_any p D xa w11 hR11.hd hR11.c0 (Int.le_trans hR11.c1 (by omega))
          have HC0 := hR11.c0
          have HC1 := hR11.c1
          clear hR9 hP9 hPl9 hL9' hx9 hK9 hka hkw10
          go_upto_region 22 with (first
            | (go_at_call 14; refine hst11.mono ?_; rintro e w12 ⟨rfl, hD12, hk12⟩)
            | fail)
          obtain ⟨s1, s2, s3, s4⟩ := stop_same D xa
          have hR12 : Rest w12 p (D.stop xa) n (pgF Q) ((k : Int) * 6300) := ⟨hD12, by rw [s3]; exact hR11.hn, fun j => by rw [s2]; exact hR11.hu j, by rw [s1]; exact hR11.hc, by rw [s4]; exact HC0, by rw [s4]; exact HC1⟩
          have hmk : ∀ j, (¬ p.mem j ∧ j ≠ gp') → ¬ p.mem j := fun j h => h.1
          have hmk2 : ∀ j, (¬ p.mem j ∧ j ≠ gp') → ¬ (p.mem j ∨ j = gp') := fun j h h' => by rcases h' with h' | h'; exact h.1 h'; exact h.2 h'
          have hKg : ∀ j, (p.mem j ∨ j = gp') → w.heap.size ≤ j := fun j hj => by rcases hj with h | h; exact hmem j h; rw [h]; exact hgp'
          have hgc2 : ¬ (p.mem gc ∨ gc = gp') := fun h' => by rcases h' with h' | h'; exact hgcm h'; exact hgcg h'
          have hP12 := hP11.kept hk12
          have hx12 := hx11.kept hk12 hmk
          have hL12 := hL11.kept hk12 hmk
          have hPl12 := hPl11.kept hk12 hmk
          have hK12 := kpN hK11 hk12 hmem
          have u1 := hk12.cell v1 hgcm
          have u2 := hk12.cell v2 hgcm
          have u3 := hk12.cell v3 hgcm
          have hco := commit_stop hR12 (by omega) (by omega) (pgF_size hQs) hP12 (hx12.mono (fun _ _ h => h.1)) hok (by omega) (by omega)
          clear hst11 s1 s2 s3 s4 v0 v1 v2 v3 hR11 hP11 hPl11 hL11 hx11 hK11 hk12 hD12
          go_upto_region 23 with (first
            | (go_at_call 15; refine hco.mono ?_; rintro e w13 ⟨D13, F, bv', bl, rfl, hD13, hn13, hc13a, hc13b, hk13, hbl31, hor⟩)
            | fail)
          clear hco
          have hL13 := hL12.kept hk13 hmk2
          have hPl13 := hPl12.kept hk13 hmk2
          have hx13 := hx12.kept hk13 hmk2
          have hK13 := kpN hK12 hk13 hKg
          have q1 := hk13.cell u1 hgc2
          have q2 := hk13.cell u2 hgc2
          have q3 := hk13.cell u3 hgc2
          clear hL12 hPl12 hx12 hK12 u1 u2 u3 hk13 hR12 hP12
          rcases hor with ⟨hF, hblE, hbvE, hCl, hU, c', hc'0, hc'1, hP13⟩ | ⟨hF, hbl0, hP13, hrd, hAf⟩
          · subst hF
            subst hblE
            have hR13 : Rest w13 p D13 n (pgF Q2) ((k : Int) * 6300 + 300) := ⟨hD13, hn13, hU, by rw [hq]; exact hCl, hc13a, hc13b⟩
            have hsm := rest_same (D := D13) (Q := Q2) (g := gp') (r := r9) (m := (k : Int) * 6300 + 300) (by rw [hql]; exact hR13) (by omega) hqs (by rw [hql]; exact hP13) hL13
            go_upto_region 29 with (first
              | (go_at_call 16; refine hsm.mono ?_; rintro e w14 ⟨rfl, hk14⟩)
              | fail)
            have m1 := hk14.cell q1 (fun h => h)
            have m2 := hk14.cell q2 (fun h => h)
            have m3 := hk14.cell q3 (fun h => h)
            have hK14 := hK13.then hk14
            have hcr := crash_any p D13 _ xl xt xc w.heap.size w14 (hD13.keptN hk14) hc13a (by omega) (hsl.kept hK14 (fun _ _ h => h)) hmem
            go_upto_region 30 with (first
              | (go_at_call 17; refine hcr.mono ?_; rintro e w15 ⟨rfl, hD15, hk15⟩)
              | fail)
            have hK15 := kpN hK14 hk15 hmem
            have hM15 : Mend w15 p (D13.crash xl xt xc) n (pgF Q2) ((k : Int) * 6300 + 300) := ⟨hD15, hn13, fun _ => rfl, .inl (crash_clean hn13 hU (by rw [hq]; exact hCl) xl xt xc), rfl, hc13a, hc13b⟩
            have hC15 := HC.out.kept hK15 (fun _ _ h => h) (fun x hx => Cr.ok.kept hx hK15 (fun _ _ h => h))
            have hag := again_any p _ n (pgF Q2) _ _ cs.length cap2 cs w.heap.size w15 hM15 (by omega) hnn.1 (by omega) (pgF_size hqs) hC15 hmem
            have hL15 : Pgl (fun j => (¬ p.mem j ∧ j ≠ gp') ∧ j < w15.heap.size) w15 r9 Q2 := ((hL13.keptN hk14).kept hk15 hmk).mono (fun j hj h => ⟨h, hj⟩)
            clear hcr hsm m1 m2 m3 q1 q2 q3 hC15 hM15 hR13 hPl13 hx13
            go_upto_region 31 with (first
              | (go_at_call 18; refine hag.mono ?_; rintro e w16 ⟨g16, D16, rfl, hR16, hst16, hP16, hg16, hk16⟩)
              | fail)
            have hL16 : Pgl (fun j => ¬ p.mem j ∧ j ≠ g16) w16 r9 Q2 := (hL15.kept hk16 (fun j h => h.1.1)).mono (fun j _ h => ⟨h.1.1, by omega⟩)
            have hK16 := kpN hK15 hk16 hmem
            have hg16w : w.heap.size ≤ g16 := Nat.le_trans hK15.size hg16
            have hsm := rest_same (D := D16) (Q := Q2) (g := g16) (r := r9) (m := (k : Int) * 6300 + 300 + 6000) (by rw [hql]; exact hR16) (by omega) hqs (by rw [hql]; exact hP16) hL16
            clear hag hL15
            go_wp2_with (first
              | (go_at_call 16; refine hsm.mono ?_; rintro e w17 ⟨rfl, hk17⟩)
              | fail)
            go_roundw
            case rel => exact ⟨k + 1, r9, g16, at' + 1, D16, Q2, by omega, by go_num, rfl, rfl, by go_num, by omega, hg16w, (hR16.keptN hk17).less (by omega), hst16, hP16.keptN hk17, hL16.keptN hk17, hql, hqs, hK16.then hk17⟩
            case measure => simp [intOf]; omega
          · subst hF
            have hsame := same_any gp' r' p D13 0 bv' bl _ Q w13 (by rw [hQn]; exact hP13) hD13 hPl13 (by rw [hQn, hn13]; exact Nat.le_refl _) (by omega) (by omega)
            rw [same_true (D := D13) (bl := bl) (Q := Q) (fun i hi => hrd i (by omega))] at hsame
            have hcn : ∀ W : World, Kp none' w13 W → Calls Tryz.prog 15 #[.pointer (some ⟨gp', 0, none⟩), .slice sxa l.length sxc] W fun e w' => e = .returned (.int .i64 13) ∧ Kp none' W w' := fun W hW => by
              have hr13 : refE n bl l = 13 := by unfold refE; rw [if_pos hbl0]
              have := commit_no gp' n p 0 bv' bl _ l _ W (hP13.keptN hW) hbl31 (hx13.keptN hW) hil (.inl (by rw [hr13]; decide))
              rw [hr13] at this
              exact this
            have HCN := hide hcn
            clear hcn
            go_upto_region 29 with (first
              | (go_at_call 16; refine hsame.mono ?_; rintro e w14 ⟨rfl, hk14⟩)
              | (go_at_call 15; refine (HCN.out _ hk14).mono ?_; rintro e w14b ⟨rfl, hk14b⟩)
              | fail)
            have hk1 := hk14.then hk14b
            have m1 := hk1.cell q1 (fun h => h)
            have m2 := hk1.cell q2 (fun h => h)
            have m3 := hk1.cell q3 (fun h => h)
            have hK14 := hK13.then hk1
            have hcr := crash_any p D13 _ xl xt xc w.heap.size w14b (hD13.keptN hk1) hc13a (by omega) (hsl.kept hK14 (fun _ _ h => h)) hmem
            go_upto_region 30 with (first
              | (go_at_call 17; refine hcr.mono ?_; rintro e w15 ⟨rfl, hD15, hk15⟩)
              | fail)
            have hK15 := kpN hK14 hk15 hmem
            have hC15 := HC.out.kept hK15 (fun _ _ h => h) (fun x hx => Cr.ok.kept hx hK15 (fun _ _ h => h))
            have hL15 : Pgl (fun j => (¬ p.mem j ∧ j ≠ gp') ∧ j < w15.heap.size) w15 r9 Q2 := ((hL13.keptN hk1).kept hk15 hmk).mono (fun j hj h => ⟨h, hj⟩)
            have hPl15 : Pgl (fun j => (¬ p.mem j ∧ j ≠ gp') ∧ j < w15.heap.size) w15 r' Q := ((hPl13.keptN hk1).kept hk15 hmk).mono (fun j hj h => ⟨h, hj⟩)
            have hrec := hAf _ (crash_after D13 xl xt xc)
            rw [← hq] at hrec
            clear hcr hsame m1 m2 m3 q1 q2 q3 hx13 hPl13 HCN hP13 hrd hAf hL13
            rcases hrec with hrec | hrec
            · have hM15 : Mend w15 p (D13.crash xl xt xc) n (pgF Q) ((k : Int) * 6300 + 300) := ⟨hD15, hn13, fun _ => rfl, hrec, rfl, hc13a, hc13b⟩
              have hag := again_any p _ n (pgF Q) _ _ cs.length cap2 cs w.heap.size w15 hM15 (by omega) hnn.1 (by omega) (pgF_size hQs) hC15 hmem
              go_upto_region 31 with (first
                | (go_at_call 18; refine hag.mono ?_; rintro e w16 ⟨g16, D16, rfl, hR16, hst16, hP16, hg16, hk16⟩)
                | fail)
              have hL16 : Pgl (fun j => ¬ p.mem j ∧ j ≠ g16) w16 r9 Q2 := (hL15.kept hk16 (fun j h => h.1.1)).mono (fun j _ h => ⟨h.1.1, by omega⟩)
              have hPl16 : Pgl (fun j => ¬ p.mem j ∧ j ≠ g16) w16 r' Q := (hPl15.kept hk16 (fun j h => h.1.1)).mono (fun j _ h => ⟨h.1.1, by omega⟩)
              have hK16 := kpN hK15 hk16 hmem
              have hg16w : w.heap.size ≤ g16 := Nat.le_trans hK15.size hg16
              have hsN : ∀ W : World, Kp none' w16 W → Calls Tryz.prog 16 #[.pointer (some ⟨g16, 0, none⟩), .pointer (some ⟨r9, 0, none⟩)] W fun e w' => e = .returned (.bool (sameB D16 [] Q2)) ∧ Kp none' W w' := fun W hW => same_any g16 r9 p D16 0 _ [] _ Q2 W (by rw [hql]; exact hP16.keptN hW) (hR16.hd.keptN hW) (hL16.keptN hW) (by rw [hql, hR16.hn]; exact Nat.le_refl _) (by omega) (by simp)
              have hsQ : ∀ W : World, Kp none' w16 W → Calls Tryz.prog 16 #[.pointer (some ⟨g16, 0, none⟩), .pointer (some ⟨r', 0, none⟩)] W fun e w' => e = .returned (.bool true) ∧ Kp none' W w' := fun W hW => rest_same (D := D16) (Q := Q) (g := g16) (r := r') (m := (k : Int) * 6300 + 300 + 6000) (by rw [hQn]; exact hR16.keptN hW) (by omega) hQs (by rw [hQn]; exact hP16.keptN hW) (hPl16.keptN hW)
              have hcong : sameB D16 [] Q2 = true → Clean n D16.s (pgF Q2) := fun hb => clean_congr hR16.hc (fun i hi => by
                unfold sameB at hb
                rw [decide_eq_true_iff] at hb
                have h1 := hb i (by omega)
                rw [show rdP D16 [] i = lookS D16 (placeN i) from rfl, clean_look hR16.hu hR16.hc (pgF_size hQs) i hi] at h1
                rw [h1, pgF_at Q2 i (by omega)])
              have HSN := hide hsN
              have HSQ := hide hsQ
              have HCG := hide hcong
              clear hag hL15 hPl15 hM15 hC15 hsN hsQ hcong hrec
              cases hb : sameB D16 [] Q2 with
              | true =>
                rw [hb] at HSN
                go_upto_region 33 with fail
                go_upto_region 35 with (first
                  | (go_at_call 16; refine (HSN.out _ (Kp.refl _ _)).mono ?_; rintro e w17 ⟨rfl, hk17⟩)
                  | fail)
                go_wp2_with (first
                  | (go_at_call 16; refine (HSN.out _ hk17).mono ?_; rintro e w18 ⟨rfl, hk18⟩)
                  | fail)
                have hk2 := hk17.then hk18
                have hRn : Rest w18 p D16 n (pgF Q2) (((k + 1 : Nat) : Int) * 6300) := ⟨hR16.hd.keptN hk2, hR16.hn, hR16.hu, HCG.out hb, hR16.c0, Int.le_trans hR16.c1 (by omega)⟩
                go_roundw
                case rel => exact ⟨k + 1, r9, g16, at' + 1, D16, Q2, by omega, by go_num, rfl, rfl, by go_num, by omega, hg16w, hRn, hst16, hP16.keptN hk2, hL16.keptN hk2, hql, hqs, hK16.then hk2⟩
                case measure => simp [intOf]; omega
              | false =>
                rw [hb] at HSN
                go_upto_region 33 with fail
                go_upto_region 35 with (first
                  | (go_at_call 16; refine (HSN.out _ (Kp.refl _ _)).mono ?_; rintro e w17 ⟨rfl, hk17⟩)
                  | fail)
                go_wp2_with (first
                  | (go_at_call 16; refine (HSQ.out _ hk17).mono ?_; rintro e w18 ⟨rfl, hk18⟩)
                  | fail)
                have hk2 := hk17.then hk18
                go_roundw
                case rel => exact ⟨k + 1, r', g16, at' + 1, D16, Q, by omega, by go_num, rfl, rfl, by go_num, by omega, hg16w, (hR16.keptN hk2).less (by omega), hst16, hP16.keptN hk2, hPl16.keptN hk2, hQn, hQs, hK16.then hk2⟩
                case measure => simp [intOf]; omega
            · have hM15 : Mend w15 p (D13.crash xl xt xc) n (pgF Q2) ((k : Int) * 6300 + 300) := ⟨hD15, hn13, fun _ => rfl, hrec, rfl, hc13a, hc13b⟩
              have hag := again_any p _ n (pgF Q2) _ _ cs.length cap2 cs w.heap.size w15 hM15 (by omega) hnn.1 (by omega) (pgF_size hqs) hC15 hmem
              go_upto_region 31 with (first
                | (go_at_call 18; refine hag.mono ?_; rintro e w16 ⟨g16, D16, rfl, hR16, hst16, hP16, hg16, hk16⟩)
                | fail)
              have hL16 : Pgl (fun j => ¬ p.mem j ∧ j ≠ g16) w16 r9 Q2 := (hL15.kept hk16 (fun j h => h.1.1)).mono (fun j _ h => ⟨h.1.1, by omega⟩)
              have hK16 := kpN hK15 hk16 hmem
              have hg16w : w.heap.size ≤ g16 := Nat.le_trans hK15.size hg16
              have hsN : ∀ W : World, Kp none' w16 W → Calls Tryz.prog 16 #[.pointer (some ⟨g16, 0, none⟩), .pointer (some ⟨r9, 0, none⟩)] W fun e w' => e = .returned (.bool true) ∧ Kp none' W w' := fun W hW => rest_same (D := D16) (Q := Q2) (g := g16) (r := r9) (m := (k : Int) * 6300 + 300 + 6000) (by rw [hql]; exact hR16.keptN hW) (by omega) hqs (by rw [hql]; exact hP16.keptN hW) (hL16.keptN hW)
              have HSN := hide hsN
              clear hag hL15 hPl15 hM15 hC15 hsN hrec
              go_upto_region 33 with fail
              go_upto_region 35 with (first
                | (go_at_call 16; refine (HSN.out _ (Kp.refl _ _)).mono ?_; rintro e w17 ⟨rfl, hk17⟩)
                | fail)
              go_wp2_with (first
                | (go_at_call 16; refine (HSN.out _ hk17).mono ?_; rintro e w18 ⟨rfl, hk18⟩)
                | fail)
              have hk2 := hk17.then hk18
              go_roundw
              case rel => exact ⟨k + 1, r9, g16, at' + 1, D16, Q2, by omega, by go_num, rfl, rfl, by go_num, by omega, hg16w, (hR16.keptN hk2).less (by omega), hst16, hP16.keptN hk2, hL16.keptN hk2, hql, hqs, hK16.then hk2⟩
              case measure => simp [intOf]; omega
      · have hE' : (E != 0) = true := by simp [hE]
        go_wp2_with (first
          | (go_at_call 12; refine hri.mono ?_; rintro e w7 ⟨rfl, hk7⟩)
          | fail)
        go_roundw
        case rel => exact ⟨k + 1, r', gp', at', D, Q, by omega, by go_num, rfl, rfl, rfl, by omega, hgp', (hR4.keptN hk7).less (by omega), hst, hP4.keptN hk7, hPl4.keptN hk7, hQn, hQs, hK4.then hk7⟩
        case measure => simp [intOf]; omega
    · obtain rfl : k = L2.length := by omega
      go_wp2
      go_ret
      exact ⟨rfl, hK.grown⟩

end Go.Proofs.YtgfijbbibafdfaaGreat.pagerCrash
