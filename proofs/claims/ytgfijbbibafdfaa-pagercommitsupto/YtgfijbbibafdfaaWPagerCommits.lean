/- The walk of the law PagerCommits. Conditions: those that the theorem states. -/
import Derived.Test.YtgfijbbibafdfaaPRest
import Derived.Test.YtgfijbbibafdfaaPOpenB
namespace Go.Proofs.Ytgfijbbibafdfaa.pagerCommits
open Go.RowKit
set_option linter.unusedVariables false

set_option maxRecDepth 100000 in
set_option maxHeartbeats 6400000 in
theorem walk (n0 : Int) (a : Option Addr) (len cap : Nat) (L : List Bt) (w : World) (hB : Sts Bt.cells 2 (fun b w' => b.ok w.heap.size w') w.heap.size w (.slice a len cap) L) (hl : ∀ b ∈ L, b.ps.length ≤ 1048576) : Calls Try.prog 3 #[.int .i64 n0, .slice a len cap] w fun e w' => e = .returned (.bool true) ∧ w.grownBy w' none := by
  obtain ⟨hlen, hcap, hcm⟩ : len = L.length ∧ L.length ≤ cap ∧ cap ≤ maxLen := by
    obtain ⟨a', c', h0, h1, h2, _⟩ := hB
    cases h0
    exact ⟨rfl, h1, h2⟩
  have hT := hB.take (min len 30) (by omega)
  have hTl : ∀ b ∈ L.take (min len 30), b.ps.length ≤ 1048576 := fun b hb => hl b (List.take_subset _ _ hb)
  have hTn : (L.take (min len 30)).length = min len 30 := by rw [List.length_take]; omega
  have hea := pearly_any a len cap
  clear hB hl
  obtain ⟨L2, HL2⟩ : ∃ L2, Hid (L.take (min len 30) = L2) := ⟨_, rfl⟩
  rw [HL2.out] at hT hTl hTn
  have hL30 : L2.length ≤ 30 := by omega
  rw [← hTn] at hT hea
  have hcl : len ≤ cap := by omega
  clear hTn hlen hcap
  obtain ⟨a', c', h0, _, _, hcs'⟩ := hT
  cases h0
  have hcs := hide hcs'
  clear hcs'
  have hnn := pagesN_le n0
  obtain ⟨n, HN⟩ : ∃ n, Hid (pagesN n0 = n) := ⟨_, rfl⟩
  rw [HN.out] at hnn
  have HW : Hid (wrap64 (126 + 4 * (n : Int)) = 126 + 4 * (n : Int)) := by show _ = _; unfold wrap64; omega
  go_enter Try.func3, Try.ntmps3
  go_upto_region 6 with (first
    | (go_at_call 7; refine (plives_any _).mono ?_; rintro e w1 ⟨rfl, hk1⟩)
    | (go_at_call 8; refine (pages_any _ _).mono ?_; rintro e w' ⟨rfl, rfl⟩; rw [HN.out])
    | (go_at_call 9; refine (hea _ hcl hcm).mono ?_; rintro e w' ⟨rfl, rfl⟩)
    | (go_at_call 11; refine (need_any _ _).mono ?_; rintro e w' ⟨rfl, rfl⟩; rw [HW.out])
    | (go_at_call 10; refine (new_any _ _).mono ?_; rintro e w2 ⟨p, rfl, hD2, hk2, hm2⟩)
    | fail)
  have hR2 := rest_new (n := n) (by omega) hD2
  have ho2 := rest_open hR2 (by omega) hnn.1 (by omega)
  have hmem : ∀ k, p.mem k → w.heap.size ≤ k := fun k hk => Nat.le_trans hk1.size (hm2 k hk)
  have hK2 := hk1.then hk2
  clear hD2 hR2 hm2 hk1 hk2 hea
  go_upto_region 7 with (first
    | (go_at_call 12; refine ho2.mono ?_; rintro e w3 ⟨gp, rfl, hR3, hP3, hgp3, hk3⟩)
    | fail)
  have hK3 := kpN hK2 hk3 hmem
  have hgpa : w.heap.size ≤ gp := Nat.le_trans hK2.size hgp3
  have hrn := prnew_any n w3 (by omega)
  clear ho2 hk3
  go_upto_region 10 with (first
    | (go_at_call 13; refine hrn.mono ?_; rintro e w5 ⟨r, rfl, hL5, hk5⟩)
    | fail)
  clear hrn
  have hlt3 := hR3.hd.lt
  have hgl3 := hP3.lt
  have hL5' : Pgl (fun k => ¬ p.mem k ∧ k ≠ gp) w5 r (List.replicate n (fillB 0)) := hL5.mono (fun k _ hk => ⟨fun h => by have := hlt3 k h; omega, by omega⟩)
  have hR5 := hR3.keptN hk5
  rw [← rep_pgF n] at hR5
  have hP5 := hP3.keptN hk5
  have hK5 := hK3.then hk5
  have hQ5 : ∀ x ∈ List.replicate n (fillB 0), x.size = 256 := fun x hx => by rw [(List.mem_replicate.1 hx).2]; exact fillB_size 0
  have hst5 : (fresh (126 + 4 * n)).st = false := rfl
  have hml : ∀ k, p.mem k → k < w3.heap.size := hlt3
  have hw35 : w3.heap.size ≤ w5.heap.size := hk5.size
  clear hR3 hP3 hK3 hL5 hK2 hk5
  generalize hF0 : fresh (126 + 4 * n) = F0 at *
  clear hF0
  go_upto_region 12 with fail
  go_loopw [8, 9, 10] (fun q cnt t wr => ∃ (k r : Nat) (D : Dv) (c : Nat) (Q : List ByteArray), k ≤ L2.length ∧ t = .int .i64 k ∧ q = .pointer (some ⟨r, 0, none⟩) ∧ cnt = .int .i64 c ∧ c ≤ k ∧ Rest wr p D n (pgF Q) ((k : Int) * 300) ∧ D.st = false ∧ Pag wr gp p n c (.slice none 0 0) [] ∧ Pgl (fun j => ¬ p.mem j ∧ j ≠ gp) wr r Q ∧ Q.length = n ∧ (∀ x ∈ Q, x.size = 256) ∧ Kp none' w wr) (fun _ _ t _ => L2.length - (intOf t).toNat)
  case atStart => exact ⟨0, r, F0, 0, List.replicate n (fillB 0), Nat.zero_le _, rfl, rfl, rfl, Nat.le_refl _, by simpa using hR5, hst5, hP5, hL5', by rw [List.length_replicate], hQ5, hK5⟩
  case round =>
    obtain ⟨k, r', D, c, Q, hk, rfl, rfl, rfl, hck, hR, hst, hP, hPl, hQn, hQs, hK⟩ := hrel
    clear hR5 hP5 hL5' hK5 hQ5 hst5
    by_cases hlt : k < L2.length
    · have hki : (k : Int) < (L2.length : Int) := by omega
      obtain ⟨b, o, rfl, hbb, hra, hbo⟩ := hcs.out k hlt
      have hbl := hTl L2[k] (List.getElem_mem hlt)
      generalize L2[k] = bt at *
      obtain ⟨pv, ps, bv, bs⟩ := bt
      have hbo' := hbo.keptN hK
      obtain ⟨pa, pc, hpv⟩ : ∃ a c, pv = .slice a ps.length c := by obtain ⟨a, c, h, _⟩ := hbo.hp; exact ⟨a, c, h⟩
      obtain ⟨va, vc, hbv⟩ : ∃ a c, bv = .slice a bs.length c := by obtain ⟨a, c, h, _⟩ := hbo.hb; exact ⟨a, c, h⟩
      subst hpv hbv
      have d0 := hK.cell (hra 0 _ rfl) (fun h => h)
      have d1 := hK.cell (hra 1 _ rfl) (fun h => h)
      rw [Nat.add_zero] at d0
      have hch := changes_any ⟨.slice pa ps.length pc, ps, .slice va bs.length vc, bs⟩ w.heap.size wr hbo' hK.size hbl
      rw [show (Bt.cells ⟨.slice pa ps.length pc, ps, .slice va bs.length vc, bs⟩) = #[.slice pa ps.length pc, .slice va bs.length vc] from rfl] at hch
      dsimp only at hch
      have hi64 : i64s ps := hbo.hi
      have hdl := chgL_size ps bs
      have hpg : (chgL ps bs).map Chg.page = ps := chgL_pages ps bs
      obtain ⟨l, HL⟩ : ∃ l, Hid (chgL ps bs = l) := ⟨_, rfl⟩
      rw [HL.out] at hdl hpg hch
      have hil : i64s (l.map Chg.page) := by rw [hpg]; exact hi64
      clear hra hbo hbo'
      go_upto_region 15 with (first
        | (go_at_call 14; refine hch.mono ?_; rintro e w4 ⟨x, y, rfl, hx, hy, hk4⟩; obtain ⟨xa, xc, rfl⟩ := hx.chs.shape; obtain ⟨ya, yc, rfl⟩ := hy.chs.shape)
        | fail)
      clear hch d0 d1
      have hltr := hR.hd.lt
      have hglr := hP.lt
      have hx4 : Chs (fun k => ¬ p.mem k ∧ k ≠ gp) w4 _ l := hx.chs.mono (fun k _ hk => ⟨fun h => by have := hltr k h; omega, by omega⟩)
      have hy4 : Chs (fun k => ¬ p.mem k ∧ k ≠ gp) w4 _ l := hy.chs.mono (fun k _ hk => ⟨fun h => by have := hltr k h; omega, by omega⟩)
      have hR4 := hR.keptN hk4
      have hP4 := hP.keptN hk4
      have hPl4 := hPl.keptN hk4
      have hK4 := hK.then hk4
      have hca := calls_any p D w4 hR4.hd
      have hco := rest_commit_any hR4 hst (by omega) (by omega) (pgF_size hQs) hP4 (hx4.mono (fun _ _ h => h.1)) hdl hil (by omega) (by omega)
      clear hx hy hR hP hPl hk4 hltr hglr hx4
      go_upto_region 16 with (first
        | (go_at_call 15; refine hca.mono ?_; rintro e w' ⟨rfl, rfl⟩)
        | fail)
      clear hca
      obtain ⟨E, HE⟩ : ∃ E, Hid (rightE n l = E) := ⟨_, rfl⟩
      rw [HE.out] at hco
      have hee : (E != E) = false := by simp
      by_cases hE : E = 0
      · have hok := right_ok (by rw [HE.out]; exact hE) hdl
        have hp := hok.p
        have hm31 := hok.m
        rw [if_pos hE, if_pos hE] at hco
        go_upto_region 17 with (first
          | (go_at_call 16; refine hco.mono ?_; rintro e w6 ⟨D6, c6, rfl, hR6, hst6, hP6, hk6, hD6c, hc6⟩; have hri := right_any r' _ _ Q _ l w6 (hPl4.kept hk6 (fun k h h' => by rcases h' with h' | h'; exact h.1 h'; exact h.2 h')) (hy4.kept hk6 (fun k h h' => by rcases h' with h' | h'; exact h.1 h'; exact h.2 h')) hdl (by omega); rw [hQn, HE.out] at hri)
          | (go_at_call 17; refine hri.mono ?_; rintro e w7 ⟨rfl, hk7⟩)
          | fail)
        have hKg : ∀ k, (p.mem k ∨ k = gp) → w.heap.size ≤ k := fun k hk => by rcases hk with h | h; exact hmem k h; rw [h]; exact hgpa
        have hK6 := kpN hK4 hk6 hKg
        have hK7 := hK6.then hk7
        have hR7 := hR6.keptN hk7
        have hP7 := hP6.keptN hk7
        have hkk : ∀ k, (¬ p.mem k ∧ k ≠ gp) → ¬ (p.mem k ∨ k = gp) := fun k h h' => by rcases h' with h' | h'; exact h.1 h'; exact h.2 h'
        have hPl7 := (hPl4.kept hk6 hkk).keptN hk7
        have hy7 := (hy4.kept hk6 hkk).keptN hk7
        have hca7 := calls_any p D6 w7 hR7.hd
        have hwi := with_any r' _ _ Q _ l w7 hPl7 hy7 (by rw [hQn]; exact hp) (by omega) (by omega) hm31
        have hq : pgF (withL Q l) = withC (pgF Q) l := withL_pgF l Q (by rw [hQn]; exact hp)
        have hql : (withL Q l).length = n := by rw [withL_len, hQn]
        have hqs := withL_sizes (Q := Q) (l := l) hQs hdl
        rw [← hq] at hR7
        obtain ⟨Q2, HQ2⟩ : ∃ Q2, Hid (withL Q l = Q2) := ⟨_, rfl⟩
        rw [HQ2.out] at hwi hql hqs hR7
        have hrc := rcalls_any l.length
        have Hfin : Hid (∀ (w9 : World) (r9 : Nat), Kp none' w7 w9 → Pgl (fun j => w7.heap.size ≤ j) w9 r9 Q2 → Calls Try.prog 21 #[.pointer (some ⟨gp, 0, none⟩), .pointer (some ⟨r9, 0, none⟩)] w9 fun e w' => e = .returned (.bool true) ∧ Kp none' w9 w') := fun w9 r9 hk9 hL9 => rest_same (D := D6) (Q := Q2) (g := gp) (r := r9) (m := (k : Int) * 300 + 300) (by rw [hql]; exact hR7.keptN hk9) (by omega) hqs (by rw [hql]; exact hP7.keptN hk9) hL9
        have Hun : Hid (∀ W : World, Kp none' w7 W → Calls Try.prog 20 #[.pointer (some ⟨p.d, 0, none⟩)] W fun e w' => ∃ a c, e = .returned (.slice a 0 c) ∧ Kp none' W w') := fun W hW => by
          refine (unsure_any p D6 W (hR7.hd.keptN hW)).mono ?_
          rintro e w' ⟨v, rfl, hO, hk⟩
          have hU : unsI D6 = [] := by
            unfold unsI unsL
            rw [List.map_eq_nil_iff, List.filter_eq_nil_iff]
            intro k _
            simp [hR7.hu]
          rw [hU] at hO
          obtain ⟨a, c, rfl, _⟩ := hO.open
          exact ⟨a, c, rfl, hk⟩
        have Hca : Hid (∀ W : World, Kp none' w7 W → Calls Try.prog 15 #[.pointer (some ⟨p.d, 0, none⟩)] W fun e w' => e = .returned (.int .i64 D6.c) ∧ w' = W) := fun W hW => calls_any p D6 W (hR7.hd.keptN hW)
        have Hcm : Hid (∀ W : World, Kp none' w7 W → Calls Try.prog 22 #[.pointer (some ⟨gp, 0, none⟩)] W fun e w' => e = .returned (.int .i64 c6) ∧ w' = W) := fun W hW => pcommits_any gp c6 W (hW.cell hP7.c2 (fun h => h))
        have hD6c0 := hR7.c0
        have hD6c1 := hR7.c1
        have hDc0 := hR4.c0
        have hDc1 := hR4.c1
        have HREL : Hid (∀ w9 r9, Kp none' w7 w9 → Pgl (fun j => w7.heap.size ≤ j) w9 r9 Q2 → Rest w9 p D6 n (pgF Q2) (((k + 1 : Nat) : Int) * 300) ∧ Pag w9 gp p n c6 (.slice none 0 0) [] ∧ Pgl (fun j => ¬ p.mem j ∧ j ≠ gp) w9 r9 Q2 ∧ Kp none' w w9) := fun w9 r9 hk9 hL9 => by
          refine ⟨(hR7.keptN hk9).less (by omega), hP7.keptN hk9, hL9.mono (fun j _ hj => ⟨fun h => by have := hR7.hd.lt j h; omega, by have := hP7.lt; omega⟩), hK7.then hk9⟩
        have hcN : callsN l.length ≤ 300 := by unfold callsN; split <;> omega
        by_cases hl0 : l = []
        · have hlz : l.length = 0 := by rw [hl0]; rfl
          have hcz : callsN l.length = 0 := by rw [hlz]; rfl
          rw [hcz] at hD6c
          have hDD : D6.c = D.c := by rw [hD6c]; omega
          have hcc : c6 = (c : Int) := by rw [hc6, if_neg (fun h => h.2 hl0)]; omega
          have hcne : (D6.c != D.c) = false := by simp [hDD]
          have hE0 : (E == 0) = true := by simp [hE]
          have hlen0 : ¬ (0 : Int) < (l.length : Int) := by omega
          have hadd : (D6.c != wrap64 (D.c + (callsN l.length : Int))) = false := by
            rw [hcz, hDD]
            have : wrap64 (D.c + ((0 : Nat) : Int)) = D.c := by unfold wrap64; omega
            rw [this]
            simp
          have hadd2 : (D6.c != D.c + (callsN l.length : Int)) = false := by
            rw [hcz, hDD]
            simp
          have hccn : (c6 != (c : Int)) = false := by simp [hcc]
          have HCC := hide hcc
          clear hl0 hlz hDD hcc hc6 hD6c hcz
          go_wp2_with (first
            | (go_at_call 15; refine (Hca.out _ hk79).mono ?_; rintro e w' ⟨rfl, rfl⟩)
            | (go_at_call 15; refine (Hca.out _ (Kp.refl _ _)).mono ?_; rintro e w' ⟨rfl, rfl⟩)
            | (go_at_call 18; refine hwi.mono ?_; rintro e w9 ⟨r9, rfl, hL9, hk79⟩)
            | (go_at_call 19; refine (hrc _ hm31).mono ?_; rintro e w' ⟨rfl, rfl⟩)
            | (go_at_call 20; refine (Hun.out _ hk79).mono ?_; rintro e w10 ⟨ua, uc, rfl, hk10⟩)
            | (go_at_call 21; refine (Hfin.out _ r9 (hk79.then hk10) (hL9.keptN hk10)).mono ?_; rintro e w11 ⟨rfl, hk11⟩)
            | (go_at_call 22; refine (Hcm.out _ ((hk79.then hk10).then hk11)).mono ?_; rintro e w' ⟨rfl, rfl⟩)
            | fail)
          have HR9 := HREL.out _ r9 ((hk79.then hk10).then hk11) ((hL9.keptN hk10).keptN hk11)
          rw [HCC.out] at HR9
          go_roundw
          case rel => exact ⟨k + 1, r9, D6, c, Q2, by omega, by go_num, rfl, rfl, by omega, HR9.1, hst6, HR9.2.1, HR9.2.2.1, hql, hqs, HR9.2.2.2⟩
          case measure => simp [intOf]; omega
        · have hlz : l.length ≠ 0 := fun e => hl0 (List.eq_nil_of_length_eq_zero e)
          have hcz : callsN l.length = 8 * l.length + 7 := by unfold callsN; rw [if_neg hlz]
          have hDD : D6.c ≠ D.c := by rw [hD6c, hcz]; omega
          have hcc : c6 = ((c + 1 : Nat) : Int) := by rw [hc6, if_pos ⟨hE, hl0⟩]; omega
          have hcne : (D6.c != D.c) = true := by simpa using hDD
          have hE0 : (E == 0) = true := by simp [hE]
          have hE1 : (E != 0) = false := by simp [hE]
          have hlen0 : (0 : Int) < (l.length : Int) := by omega
          have hadd : (D6.c != wrap64 (D.c + (callsN l.length : Int))) = false := by
            rw [hD6c]
            have : wrap64 (D.c + (callsN l.length : Int)) = D.c + (callsN l.length : Int) := by unfold wrap64; omega
            rw [this]
            simp
          have hadd2 : (D6.c != D.c + (callsN l.length : Int)) = false := by
            rw [hD6c]
            simp
          have hccn : (c6 != (c : Int) + 1) = false := by rw [hcc]; simp
          have HCC := hide hcc
          clear hl0 hlz hDD hcc hc6 hD6c hcz
          go_wp2_with (first
            | (go_at_call 15; refine (Hca.out _ hk79).mono ?_; rintro e w' ⟨rfl, rfl⟩)
            | (go_at_call 15; refine (Hca.out _ (Kp.refl _ _)).mono ?_; rintro e w' ⟨rfl, rfl⟩)
            | (go_at_call 18; refine hwi.mono ?_; rintro e w9 ⟨r9, rfl, hL9, hk79⟩)
            | (go_at_call 19; refine (hrc _ hm31).mono ?_; rintro e w' ⟨rfl, rfl⟩)
            | (go_at_call 20; refine (Hun.out _ hk79).mono ?_; rintro e w10 ⟨ua, uc, rfl, hk10⟩)
            | (go_at_call 21; refine (Hfin.out _ r9 (hk79.then hk10) (hL9.keptN hk10)).mono ?_; rintro e w11 ⟨rfl, hk11⟩)
            | (go_at_call 22; refine (Hcm.out _ ((hk79.then hk10).then hk11)).mono ?_; rintro e w' ⟨rfl, rfl⟩)
            | fail)
          have HR9 := HREL.out _ r9 ((hk79.then hk10).then hk11) ((hL9.keptN hk10).keptN hk11)
          rw [HCC.out] at HR9
          go_roundw
          case rel => exact ⟨k + 1, r9, D6, c + 1, Q2, by omega, by go_num, rfl, by go_num, by omega, HR9.1, hst6, HR9.2.1, HR9.2.2.1, hql, hqs, HR9.2.2.2⟩
          case measure => simp [intOf]; omega
      · rw [if_neg hE, if_neg hE, if_neg (fun h => hE h.1)] at hco
        go_upto_region 17 with (first
          | (go_at_call 16; refine hco.mono ?_; rintro e w6 ⟨D6, c6, rfl, hR6, hst6, hP6, hk6, hD6c, hc6⟩; have hri := right_any r' _ _ Q _ l w6 (hPl4.kept hk6 (fun k h h' => by rcases h' with h' | h'; exact h.1 h'; exact h.2 h')) (hy4.kept hk6 (fun k h h' => by rcases h' with h' | h'; exact h.1 h'; exact h.2 h')) hdl (by omega); rw [hQn, HE.out] at hri)
          | (go_at_call 17; refine hri.mono ?_; rintro e w7 ⟨rfl, hk7⟩)
          | fail)
        have hKg : ∀ k, (p.mem k ∨ k = gp) → w.heap.size ≤ k := fun k hk => by rcases hk with h | h; exact hmem k h; rw [h]; exact hgpa
        have hK7 := (kpN hK4 hk6 hKg).then hk7
        have hR7 := hR6.keptN hk7
        have hP7 := hP6.keptN hk7
        have hkk : ∀ k, (¬ p.mem k ∧ k ≠ gp) → ¬ (p.mem k ∨ k = gp) := fun k h h' => by rcases h' with h' | h'; exact h.1 h'; exact h.2 h'
        have hPl7 := (hPl4.kept hk6 hkk).keptN hk7
        have hsm := rest_same (D := D6) (Q := Q) (g := gp) (r := r') (m := (k : Int) * 300 + 300) (by rw [hQn]; exact hR7) (by omega) hQs (by rw [hQn]; exact hP7) hPl7
        have hca7 := calls_any p D6 w7 hR7.hd
        have hDD : D6.c = D.c := by rw [hD6c]; omega
        have hcc : c6 = (c : Int) := by rw [hc6]; omega
        have hcne : (D6.c != D.c) = false := by simp [hDD]
        have hE0 : (E == 0) = false := by simpa using hE
        have hccn : (c6 != (c : Int)) = false := by simp [hcc]
        have HCC := hide hcc
        have Hcm : Hid (∀ W : World, Kp none' w7 W → Calls Try.prog 22 #[.pointer (some ⟨gp, 0, none⟩)] W fun e w' => e = .returned (.int .i64 c6) ∧ w' = W) := fun W hW => pcommits_any gp c6 W (hW.cell hP7.c2 (fun h => h))
        clear hDD hcc hc6 hD6c
        go_wp2_with (first
          | (go_at_call 15; refine hca7.mono ?_; rintro e w' ⟨rfl, rfl⟩)
          | (go_at_call 21; refine hsm.mono ?_; rintro e w11 ⟨rfl, hk11⟩)
          | (go_at_call 22; refine (Hcm.out _ hk11).mono ?_; rintro e w' ⟨rfl, rfl⟩)
          | fail)
        rw [HCC.out] at hP7
        go_roundw
        case rel => exact ⟨k + 1, r', D6, c, Q, by omega, by go_num, rfl, rfl, by omega, (hR7.keptN hk11).less (by omega), hst6, hP7.keptN hk11, hPl7.keptN hk11, hQn, hQs, hK7.then hk11⟩
        case measure => simp [intOf]; omega
    · obtain rfl : k = L2.length := by omega
      have ho := rest_open hR (by omega) hnn.1 (by omega)
      have hkk : ∀ k, (¬ p.mem k ∧ k ≠ gp) → ¬ p.mem k := fun k h => h.1
      go_upto_region 28 with (first
        | (go_at_call 12; refine ho.mono ?_; rintro e w8 ⟨g8, rfl, hR8, hP8, hg8, hk8⟩)
        | fail)
      have hPl8 := hPl.kept hk8 hkk
      have hsm := rest_same (D := D) (Q := Q) (g := g8) (r := r') (m := (L2.length : Int) * 300) (by rw [hQn]; exact hR8) (by omega) hQs (by rw [hQn]; exact hP8) hPl8
      go_wp2_with (first
        | (go_at_call 21; refine hsm.mono ?_; rintro e w11 ⟨rfl, hk11⟩)
        | fail)
      go_ret
      exact ⟨rfl, ((kpN hK hk8 hmem).then hk11).grown⟩

end Go.Proofs.Ytgfijbbibafdfaa.pagerCommits
