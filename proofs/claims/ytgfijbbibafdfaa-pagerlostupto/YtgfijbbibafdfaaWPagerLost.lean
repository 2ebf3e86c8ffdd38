/- The walk of the law PagerLost. Conditions: those that the theorem states. -/
import Derived.Test.YtgfijbbibafdfaaPRest
import Derived.Test.YtgfijbbibafdfaaPOpenB
namespace Go.Proofs.Ytgfijbbibafdfaa.pagerLost
open Go.RowKit
set_option linter.unusedVariables false

set_option maxRecDepth 100000 in
set_option maxHeartbeats 3200000 in
theorem walk (n0 : Int) (b : Bt) (c : Cr) (w : World) (hb : b.ok w.heap.size w) (hc : c.ok w.heap.size w) (hl : b.ps.length ≤ 1048576) : Calls Try.prog 4 #[.int .i64 n0, .agg b.cells, .agg c.cells] w fun e w' => e = .returned (.bool true) ∧ w.grownBy w' none := by
  have hka := (Kp.alloc none' w (.cells b.cells 40)).then (Kp.alloc none' _ (.cells c.cells 51))
  have hbl : (w.alloc (.cells b.cells 40)).heap[w.heap.size]? = some (.cells b.cells 40 (0, 0)) := heap_alloc_new w _
  have hcl : ((w.alloc (.cells b.cells 40)).alloc (.cells c.cells 51)).heap[w.heap.size + 1]? = some (.cells c.cells 51 (0, 0)) := by
    have := heap_alloc_new (w.alloc (.cells b.cells 40)) (.cells c.cells 51)
    rw [show (w.alloc (.cells b.cells 40)).heap.size = w.heap.size + 1 by simp] at this
    exact this
  have kk := Kp.alloc none' (w.alloc (.cells b.cells 40)) (.cells c.cells 51)
  have c0 := kk.cell (b := w.heap.size) (o := 0) (v := b.pv) (by rw [cell_of_row _ _ _ _ _ _ hbl]; rfl) (fun h => h)
  have c1 := kk.cell (b := w.heap.size) (o := 1) (v := b.bv) (by rw [cell_of_row _ _ _ _ _ _ hbl]; rfl) (fun h => h)
  obtain ⟨wa, Ha⟩ : ∃ wa, Hid ((w.alloc (.cells b.cells 40)).alloc (.cells c.cells 51) = wa) := ⟨_, rfl⟩
  rw [Ha.out] at hka hcl c0 c1
  have k1 : wa.cell? ⟨w.heap.size + 1, 1, none⟩ = some (.int .i64 c.torn) := by rw [cell_of_row _ _ _ _ _ _ hcl]; rfl
  have k2 : wa.cell? ⟨w.heap.size + 1, 2, none⟩ = some (.int .i64 c.cut) := by rw [cell_of_row _ _ _ _ _ _ hcl]; rfl
  have k3 : wa.cell? ⟨w.heap.size + 1, 3, none⟩ = some c.kv := by rw [cell_of_row _ _ _ _ _ _ hcl]; rfl
  have hba := hb.keptN hka
  have hca := hc.kept hka (fun _ _ h => h)
  have hsa := hka.size
  have hg1 : w.heap.size + 1 < wa.heap.size := lt_of_cell k1
  obtain ⟨g, HG⟩ : ∃ g, Hid (w.heap.size = g) := ⟨_, rfl⟩
  rw [HG.out] at c0 c1 k1 k2 k3 hba hca hsa hg1
  obtain ⟨pv, ps, bv, bs⟩ := b
  obtain ⟨cat, ctorn, ccut, ckv, cl⟩ := c
  dsimp only at c0 c1 k1 k2 k3 hl
  clear hbl hcl kk hb hc
  obtain ⟨pa, pc, hpv⟩ : ∃ a c, pv = .slice a ps.length c := by obtain ⟨a, c, h, _⟩ := hba.hp; exact ⟨a, c, h⟩
  obtain ⟨va, vc, hbv⟩ : ∃ a c, bv = .slice a bs.length c := by obtain ⟨a, c, h, _⟩ := hba.hb; exact ⟨a, c, h⟩
  obtain ⟨ka, kc, hkv⟩ : ∃ a c, ckv = .slice a cl.length c := by obtain ⟨a, c, h, _⟩ := hca; exact ⟨a, c, h⟩
  subst hpv hbv hkv
  have hnn := pagesN_le n0
  obtain ⟨n, HN⟩ : ∃ n, Hid (pagesN n0 = n) := ⟨_, rfl⟩
  rw [HN.out] at hnn
  have HW : Hid (wrap64 (126 + 4 * (n : Int)) = 126 + 4 * (n : Int)) := by show _ = _; unfold wrap64; omega
  go_enter Try.func4, Try.ntmps4
  go_upto_region 1 with fail
  rw [show (Bt.cells ⟨.slice pa ps.length pc, ps, .slice va bs.length vc, bs⟩) = #[.slice pa ps.length pc, .slice va bs.length vc] from rfl, show (Cr.cells ⟨cat, ctorn, ccut, .slice ka cl.length kc, cl⟩) = #[.int .i64 cat, .int .i64 ctorn, .int .i64 ccut, .slice ka cl.length kc] from rfl] at *
  rw [Ha.out, HG.out]
  go_upto_region 5 with (first
    | (go_at_call 7; refine (plives_any _).mono ?_; rintro e w1 ⟨rfl, hk1⟩)
    | (go_at_call 8; refine (pages_any _ _).mono ?_; rintro e w' ⟨rfl, rfl⟩; rw [HN.out])
    | (go_at_call 11; refine (need_any _ _).mono ?_; rintro e w' ⟨rfl, rfl⟩; rw [HW.out])
    | (go_at_call 10; refine (new_any _ _).mono ?_; rintro e w2 ⟨p, rfl, hD2, hk2, hm2⟩)
    | fail)
  have hR2 := rest_new (n := n) (by omega) hD2
  have ho2 := rest_open hR2 (by omega) hnn.1 (by omega)
  have hmem : ∀ k, p.mem k → wa.heap.size ≤ k := fun k hk => Nat.le_trans hk1.size (hm2 k hk)
  have hK2 := hk1.then hk2
  clear hD2 hR2 hm2 hk1 hk2
  go_upto_region 6 with (first
    | (go_at_call 12; refine ho2.mono ?_; rintro e w3 ⟨gp, rfl, hR3, hP3, hgp3, hk3⟩)
    | fail)
  have hK3 := kpN hK2 hk3 hmem
  have hgpa : wa.heap.size ≤ gp := Nat.le_trans hK2.size hgp3
  have d0 := hK3.cell c0 (fun h => h)
  have d1 := hK3.cell c1 (fun h => h)
  have hba3 := hba.keptN hK3
  have hch := changes_any ⟨.slice pa ps.length pc, ps, .slice va bs.length vc, bs⟩ g w3 hba3 (Nat.le_trans hsa hK3.size) hl
  rw [show (Bt.cells ⟨.slice pa ps.length pc, ps, .slice va bs.length vc, bs⟩) = #[.slice pa ps.length pc, .slice va bs.length vc] from rfl] at hch
  dsimp only at hch
  have hi64 : i64s ps := hba.hi
  clear ho2 hk3 hgp3
  go_upto_region 7 with (first
    | (go_at_call 14; refine hch.mono ?_; rintro e w4 ⟨x, y, rfl, hx, hy, hk4⟩; obtain ⟨xa, xc, rfl⟩ := hx.chs.shape; obtain ⟨ya, yc, rfl⟩ := hy.chs.shape)
    | fail)
  clear hch d0 d1
  have hrn := prnew_any n w4 (by omega)
  go_upto_region 8 with (first
    | (go_at_call 13; refine hrn.mono ?_; rintro e w5 ⟨r, rfl, hL5, hk5⟩)
    | fail)
  clear hrn
  have hdl := chgL_size ps bs
  have hpg : (chgL ps bs).map Chg.page = ps := chgL_pages ps bs
  obtain ⟨l, HL⟩ : ∃ l, Hid (chgL ps bs = l) := ⟨_, rfl⟩
  rw [HL.out] at hx hy hdl hpg
  have hil : i64s (l.map Chg.page) := by rw [hpg]; exact hi64
  have hlt3 := hR3.hd.lt
  have hgl3 := hP3.lt
  have hw34 := hk4.size
  have hw45 := hk5.size
  have hx5 : Chs (fun k => ¬ p.mem k ∧ k ≠ gp) w5 _ l := (hx.keptN hk5).chs.mono (fun k _ hk => ⟨fun h => by have := hlt3 k h; omega, by omega⟩)
  have hy5 : Chs (fun k => ¬ p.mem k ∧ k ≠ gp) w5 _ l := (hy.keptN hk5).chs.mono (fun k _ hk => ⟨fun h => by have := hlt3 k h; omega, by omega⟩)
  have hL5' : Pgl (fun k => ¬ p.mem k ∧ k ≠ gp) w5 r (List.replicate n (fillB 0)) := hL5.mono (fun k _ hk => ⟨fun h => by have := hlt3 k h; omega, by omega⟩)
  have hR5 := (hR3.keptN hk4).keptN hk5
  have hP5 := (hP3.keptN hk4).keptN hk5
  have hK5 := (hK3.then hk4).then hk5
  have hco := rest_commit_any hR5 rfl (by omega) (by omega) (fun _ => fillB_size 0) hP5 (hx5.mono (fun _ _ h => h.1)) hdl hil (by omega) (by omega)
  rw [HL.out] at *
  clear hx hy hL5 hR3 hP3 hk4 hk5 hlt3 hgl3 hw34 hw45 hba hba3 c0 c1
  obtain ⟨E, HE⟩ : ∃ E, Hid (rightE n l = E) := ⟨_, rfl⟩
  rw [HE.out] at hco
  by_cases hE : E = 0
  · have hok := right_ok (by rw [HE.out]; exact hE) hdl
    have hE' : (E != 0) = false := by simp [hE]
    have hp := hok.p
    have hm31 := hok.m
    rw [if_pos hE] at hco
    go_upto_region 10 with (first
      | (go_at_call 16; refine hco.mono ?_; rintro e w6 ⟨D6, c6, rfl, hR6, hst6, hP6, hk6, _, _⟩)
      | fail)
    have hK6 := kpN hK5 hk6 (fun k hk => by rcases hk with h | h; exact hmem k h; rw [h]; exact hgpa)
    have m1 := hK6.cell k1 (fun h => h)
    have m2 := hK6.cell k2 (fun h => h)
    have m3 := hK6.cell k3 (fun h => h)
    have hcr := crash_any p D6 _ cl ctorn ccut g w6 hR6.hd hR6.c0 (Int.le_trans hR6.c1 (by omega)) (Sl.kept hca hK6 (fun _ _ h => h)) (fun k hk => Nat.le_trans hsa (hmem k hk))
    have hRc : ∀ w', Dev w' p (D6.crash cl ctorn ccut) → Rest w' p (D6.crash cl ctorn ccut) n (withC (fun _ => fillB 0) l) 300 := fun w' hd => ⟨hd, hR6.hn, fun _ => rfl, crash_clean hR6.hn hR6.hu hR6.hc cl ctorn ccut, hR6.c0, hR6.c1⟩
    have HRC := hide hRc
    clear hco k1 k2 k3 hca hRc
    go_upto_region 11 with (first
      | (go_at_call 23; refine hcr.mono ?_; rintro e w7 ⟨rfl, hD7, hk7⟩)
      | fail)
    have hR7 := HRC.out w7 hD7
    have ho7 := rest_open hR7 (by omega) hnn.1 (by omega)
    have hK7 := kpN hK6 hk7 hmem
    have hL7 := (hL5'.kept hk6 (fun k h h' => by rcases h' with h' | h'; exact h.1 h'; exact h.2 h')).kept hk7 (fun k h h' => h.1 h')
    have hy7 := (hy5.kept hk6 (fun k h h' => by rcases h' with h' | h'; exact h.1 h'; exact h.2 h')).kept hk7 (fun k h h' => h.1 h')
    clear hcr m1 m2 m3 HRC hx5
    go_upto_region 12 with (first
      | (go_at_call 12; refine ho7.mono ?_; rintro e w8 ⟨g8, rfl, hR8, hP8, hg8, hk8⟩)
      | fail)
    have hK8 := kpN hK7 hk8 hmem
    have hL8 := hL7.kept hk8 (fun k h h' => h.1 h')
    have hy8 := hy7.kept hk8 (fun k h h' => h.1 h')
    have hwi := with_any r _ _ (List.replicate n (fillB 0)) _ l w8 hL8 hy8 (by rw [List.length_replicate]; exact hp) (by rw [List.length_replicate]; omega) (by rw [List.length_replicate]; omega) hm31
    have hq : pgF (withL (List.replicate n (fillB 0)) l) = withC (fun _ => fillB 0) l := by rw [withL_pgF l _ (by rw [List.length_replicate]; exact hp), rep_pgF]
    have hql : (withL (List.replicate n (fillB 0)) l).length = n := by rw [withL_len, List.length_replicate]
    have hqs := withL_sizes (Q := List.replicate n (fillB 0)) (l := l) (fun x hx => by rw [(List.mem_replicate.1 hx).2]; exact fillB_size 0) hdl
    clear ho7 hK7 hL7 hy7
    obtain ⟨Q2, HQ2⟩ : ∃ Q2, Hid (withL (List.replicate n (fillB 0)) l = Q2) := ⟨_, rfl⟩
    rw [HQ2.out] at hwi hq hql hqs
    rw [← hq] at hR8
    go_wp2_with (first
      | (go_at_call 18; refine hwi.mono ?_; rintro e w9 ⟨r9, rfl, hL9, hk9⟩; have hsm := rest_same (D := D6.crash cl ctorn ccut) (Q := Q2) (g := g8) (r := r9) (m := 300) (by rw [hql]; exact hR8.keptN hk9) (by omega) hqs (by rw [hql]; exact hP8.keptN hk9) hL9)
      | (go_at_call 21; refine hsm.mono ?_; rintro e w10 ⟨rfl, hk10⟩)
      | fail)
    go_ret
    exact ⟨rfl, (hka.then ((hK8.then hk9).then hk10)).grown⟩
  · have hE' : (E != 0) = true := by simp [hE]
    rw [if_neg hE] at hco
    go_upto_region 9 with (first
      | (go_at_call 16; refine hco.mono ?_; rintro e w6 ⟨D6, c6, rfl, hR6, hst6, hP6, hk6, _, _⟩)
      | fail)
    have hK6 := kpN hK5 hk6 (fun k hk => by rcases hk with h | h; exact hmem k h; rw [h]; exact hgpa)
    have hL6 := hL5'.kept hk6 (fun k h h' => by rcases h' with h' | h'; exact h.1 h'; exact h.2 h')
    have hy6 := hy5.kept hk6 (fun k h h' => by rcases h' with h' | h'; exact h.1 h'; exact h.2 h')
    have hri := right_any r _ _ (List.replicate n (fillB 0)) _ l w6 hL6 hy6 hdl (by rw [List.length_replicate]; omega)
    rw [List.length_replicate, HE.out] at hri
    go_wp2_with (first
      | (go_at_call 17; refine hri.mono ?_; rintro e w7 ⟨rfl, hk7⟩)
      | fail)
    go_ret
    exact ⟨rfl, (hka.then (hK6.then hk7)).grown⟩

end Go.Proofs.Ytgfijbbibafdfaa.pagerLost
