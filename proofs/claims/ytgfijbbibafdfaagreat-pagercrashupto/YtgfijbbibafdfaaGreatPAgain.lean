/- Contract, over the turned program: the laws' again: a pager that is opened anew, behind openings that crash. Conditions: those that each theorem states. -/
import Derived.Test.YtgfijbbibafdfaaGreatPRest
import Derived.Test.YtgfijbbibafdfaaGreatPOpenB
namespace Go.Proofs.YtgfijbbibafdfaaGreat
open Go.RowKit
set_option linter.unusedVariables false

/-- A device that recovers to the pages Q; its calls. -/
structure Mend (w : World) (p : Dp) (D : Dv) (n : Nat) (Q : Nat → ByteArray) (m : Int) : Prop where
  hd : Dev w p D
  hn : D.n = 126 + 4 * n
  hu : ∀ k, D.u k = none
  hr : Rec n D.s Q
  hs : D.st = false
  c0 : 0 ≤ D.c
  c1 : D.c ≤ m
theorem Mend.keptN {w w' : World} {p : Dp} {D : Dv} {n : Nat} {Q : Nat → ByteArray} {m : Int} (h : Mend w p D n Q m) (hk : Kp none' w w') : Mend w' p D n Q m := ⟨h.hd.keptN hk, h.hn, h.hu, h.hr, h.hs, h.c0, h.c1⟩
theorem stop_same (D : Dv) (x : Int) : (D.stop x).s = D.s ∧ (D.stop x).u = D.u ∧ (D.stop x).n = D.n ∧ (D.stop x).c = D.c := by
  unfold Dv.stop
  split <;> exact ⟨rfl, rfl, rfl, rfl⟩
/-- Stop, an opening, a crash. -/
theorem mend_round {n : Nat} {D : Dv} {Q : Nat → ByteArray} {m : Int} (hn : D.n = 126 + 4 * n) (hu : ∀ k, D.u k = none) (hr : Rec n D.s Q) (hQ : ∀ p, (Q p).size = 256) (c0 : 0 ≤ D.c) (c1 : D.c ≤ m) (cut : Int) (l : List Bool) (t a : Int) (w' : World) (p : Dp)
    (hd : Dev w' p (((D.stop cut).back n).crash l t a)) : Mend w' p (((D.stop cut).back n).crash l t a) n Q (m + 1100) := by
  obtain ⟨s1, s2, s3, s4⟩ := stop_same D cut
  have hn1 : (D.stop cut).n = 126 + 4 * n := by rw [s3]; exact hn
  have hu1 : ∀ k, (D.stop cut).u k = none := fun k => by rw [s2]; exact hu k
  obtain ⟨a1, a2, _⟩ := rec_back hn1 hu1 (by rw [s1]; exact hr) hQ
  obtain ⟨b1, b2, _⟩ := back_n (D.stop cut) n
  have b3 := back_c (D := D.stop cut) n
  refine ⟨hd, by show ((D.stop cut).back n).n = _; rw [b1]; exact hn1, fun _ => rfl, ?_, rfl, ?_, ?_⟩
  · by_cases he : (D.stop cut).backE n = 0
    · obtain ⟨h1, h2⟩ := a1 he
      exact .inl (crash_clean (by rw [b1]; exact hn1) h2 h1 l t a)
    · exact (a2 he).2 _ (crash_after _ l t a)
  · show 0 ≤ ((D.stop cut).back n).c
    omega
  · show ((D.stop cut).back n).c ≤ _
    omega
/-- A crash's cells in a variable of its own. -/
theorem cr_var (w : World) (c : Cr) (t : TypeId) : (w.alloc (.cells c.cells t)).cell? ⟨w.heap.size, 0, none⟩ = some (.int .i64 c.at') ∧ (w.alloc (.cells c.cells t)).cell? ⟨w.heap.size, 1, none⟩ = some (.int .i64 c.torn) ∧ (w.alloc (.cells c.cells t)).cell? ⟨w.heap.size, 2, none⟩ = some (.int .i64 c.cut) ∧ (w.alloc (.cells c.cells t)).cell? ⟨w.heap.size, 3, none⟩ = some c.kv := by
  have hb : (w.alloc (.cells c.cells t)).heap[w.heap.size]? = some (.cells c.cells t (0, 0)) := heap_alloc_new w _
  exact ⟨by rw [cell_of_row _ _ _ _ _ _ hb]; rfl, by rw [cell_of_row _ _ _ _ _ _ hb]; rfl, by rw [cell_of_row _ _ _ _ _ _ hb]; rfl, by rw [cell_of_row _ _ _ _ _ _ hb]; rfl⟩
set_option maxRecDepth 100000 in
set_option maxHeartbeats 3200000 in
theorem again_any (p : Dp) (D : Dv) (n : Nat) (Q : Nat → ByteArray) (m : Int) (a : Option Addr) (len cap : Nat) (cs : List Cr) (B : Nat) (w : World) (hM : Mend w p D n Q m) (hm : m ≤ 900000) (hn1 : 1 ≤ n) (hn2 : n ≤ 160) (hQ : ∀ p, (Q p).size = 256)
    (hC : Sts Cr.cells 4 (fun c w => c.ok B w) B w (.slice a len cap) cs) (hB : ∀ k, p.mem k → B ≤ k) :
    Calls Tryz.prog 18 #[.pointer (some ⟨p.d, 0, none⟩), .int .i64 n, .slice a len cap] w fun e w' => ∃ g D', e = .returned (.pointer (some ⟨g, 0, none⟩)) ∧ Rest w' p D' n Q (m + 6000) ∧ D'.st = false ∧ Pag w' g p n 0 (.slice none 0 0) [] ∧ w.heap.size ≤ g ∧ Kp p.mem w w' := by
  obtain ⟨a', c', h0, hl1, hl2, hcs'⟩ := hC
  cases h0
  have hlm : cs.length ≤ maxLen := Nat.le_trans hl1 hl2
  unfold maxLen at hlm
  have hcs := hide hcs'
  clear hcs'
  have hBm : ∀ k, k < B → ¬ p.mem k := fun k hk hm => by have := hB k hm; omega
  go_enter Tryz.func18, Tryz.ntmps18
  go_upto_region 2 with fail
  go_loopw [7] (fun t wr => ∃ (k : Nat) (D : Dv), k ≤ cs.length ∧ k ≤ 4 ∧ t = .int .i64 k ∧ Mend wr p D n Q (m + (k : Int) * 1100) ∧ Kp p.mem w wr) (fun t _ => 4 - (intOf t).toNat)
  case atStart => exact ⟨0, D, Nat.zero_le _, Nat.zero_le _, rfl, by simpa using hM, Kp.refl _ _⟩
  case round =>
    obtain ⟨k, D, hk, hk4, rfl, hM, hK⟩ := hrel
    by_cases hlt : k < cs.length ∧ k < 4
    · have hki : (k : Int) < (cs.length : Int) := by omega
      have hk4i : (k : Int) < 4 := by omega
      obtain ⟨q, hq⟩ : ∃ q : Nat, (cs.length : Int) - 1 - (k : Int) = q := ⟨cs.length - 1 - k, by omega⟩
      have hql : q < cs.length := by omega
      have hqi : (q : Int) < (cs.length : Int) := by omega
      obtain ⟨b, o, rfl, hbb, hra, hok⟩ := hcs.out q hql
      generalize cs[q] = cr at *
      have HV := hide (cr_var wr cr 47)
      have hka := Kp.alloc none' wr (.cells cr.cells 47)
      obtain ⟨cat, ctorn, ccut, ckv, cl⟩ := cr
      obtain ⟨ka, kc, hkv⟩ : ∃ a c, ckv = .slice a cl.length c := by obtain ⟨a, c, h, _⟩ := hok; exact ⟨a, c, h⟩
      subst hkv
      have d0 := hK.cell (hra 0 _ rfl) (hBm b hbb)
      have d1 := hK.cell (hra 1 _ rfl) (hBm b hbb)
      have d2 := hK.cell (hra 2 _ rfl) (hBm b hbb)
      have d3 := hK.cell (hra 3 _ rfl) (hBm b hbb)
      rw [Nat.add_zero] at d0
      rw [show (Cr.cells ⟨cat, ctorn, ccut, .slice ka cl.length kc, cl⟩) = #[.int .i64 cat, .int .i64 ctorn, .int .i64 ccut, .slice ka cl.length kc] from rfl] at HV hka
      obtain ⟨wb, Hb⟩ : ∃ wb, Hid (wr.alloc (.cells #[.int .i64 cat, .int .i64 ctorn, .int .i64 ccut, .slice ka cl.length kc] 47) = wb) := ⟨_, rfl⟩
      rw [Hb.out] at HV hka
      clear hra
      go_upto_region 5 with fail
      rw [Hb.out]
      have v0 := HV.out.1
      have v1 := HV.out.2.1
      have v2 := HV.out.2.2.1
      have v3 := HV.out.2.2.2
      dsimp only at v0 v1 v2 v3
      have hmg : ¬ p.mem wr.heap.size := fun h => by have := hM.hd.lt _ h; omega
      generalize wr.heap.size = gg at *
      have hMb := hM.keptN hka
      have hmc1 := hMb.c1
      have hmc0 := hMb.c0
      have hst := stop_any p D ccut wb hMb.hd hMb.c0 (by omega)
      clear d0 d1 d2 d3
      go_upto_region 6 with (first
        | (go_at_call 14; refine hst.mono ?_; rintro e w2 ⟨rfl, hD2, hk2⟩)
        | fail)
      obtain ⟨s1, s2, s3, s4⟩ := stop_same D ccut
      have ho := open_any p (D.stop ccut) n w2 hD2 (by rw [s4]; exact hMb.c0) (by rw [s4]; omega) hn1 (by rw [s3, hMb.hn]; exact Nat.le_refl _) hn2
      obtain ⟨a1, a2, _⟩ := rec_back (D := D.stop ccut) (n := n) (Q := Q) (by rw [s3]; exact hMb.hn) (fun k => by rw [s2]; exact hMb.hu k) (by rw [s1]; exact hMb.hr) hQ
      have hE09 : (D.stop ccut).backE n = 0 ∨ (D.stop ccut).backE n = 9 := by
        by_cases h : (D.stop ccut).backE n = 0
        · exact .inl h
        · exact .inr (a2 h).1
      have hbn := back_n (D.stop ccut) n
      have hbc := back_c (D := D.stop ccut) n
      have Hmr := hide (fun (w' : World) hd => mend_round (p := p) hMb.hn hMb.hu hMb.hr hQ hMb.c0 hMb.c1 ccut cl ctorn cat w' hd)
      have HD3 : Hid ((0 : Int) ≤ ((D.stop ccut).back n).c ∧ ((D.stop ccut).back n).c ≤ 1000000) := ⟨by omega, by omega⟩
      have hokb : Sl Value.bool B w (.slice ka cl.length kc) cl := hok
      have HS3 : Hid (∀ W, Kp p.mem w W → Sl Value.bool B W (.slice ka cl.length kc) cl) := fun W hW => hokb.kept hW hBm
      clear hst a1 a2 hbn hbc hok s1 s2 s3 s4
      generalize (D.stop ccut).backE n = E at *
      generalize hD3 : (D.stop ccut).back n = D3 at *
      clear hD3
      have hne0 : (E != 0 && E != 9) = false := by rcases hE09 with h | h <;> simp [h]
      rcases hE09 with hE | hE
      all_goals
        subst hE
        go_upto_region 9 with (first
          | (go_at_call 9; refine ho.mono ?_; rintro e w3 ⟨pv, rfl, hD3, hk3, _, _⟩)
          | fail)
        have hKw := (hK.thenN hka).then (hk2.then hk3)
        have u0 := hk3.cell (hk2.cell v0 hmg) hmg
        have u1 := hk3.cell (hk2.cell v1 hmg) hmg
        have u3 := hk3.cell (hk2.cell v3 hmg) hmg
        have hcr := crash_any p D3 _ cl ctorn cat B w3 hD3 HD3.out.1 HD3.out.2 (HS3.out w3 hKw) hB
        go_wp2_with (first
          | (go_at_call 17; refine hcr.mono ?_; rintro e w4 ⟨rfl, hD4, hk4⟩)
          | fail)
        have hM4 := Hmr.out w4 hD4
        go_roundw
        case rel => exact ⟨k + 1, _, by omega, by omega, by go_num, ⟨hM4.hd, hM4.hn, hM4.hu, hM4.hr, hM4.hs, hM4.c0, Int.le_trans hM4.c1 (by omega)⟩, hKw.then hk4⟩
        case measure => simp [intOf]; omega
    · have ho := open_any p D n wr hM.hd hM.c0 (Int.le_trans hM.c1 (by omega)) hn1 (by rw [hM.hn]; exact Nat.le_refl _) hn2
      obtain ⟨a1, _, a3⟩ := rec_back hM.hn hM.hu hM.hr hQ
      have hE := a3 hM.hs
      obtain ⟨hCl, hU⟩ := a1 hE
      obtain ⟨b1, b2, b3⟩ := back_n D n
      have b4 := back_c (D := D) n
      have hmc1 := hM.c1
      have hmc0 := hM.c0
      have HF : Hid (∀ w', Dev w' p (D.back n) → Rest w' p (D.back n) n Q (m + 6000) ∧ (D.back n).st = false) := fun w' hd => ⟨⟨hd, by rw [b1]; exact hM.hn, hU, hCl, by omega, by omega⟩, by rw [b3]; exact hM.hs⟩
      rw [hE] at ho
      clear a1 a3 hE hCl hU b1 b2 b3 b4
      have hcond : ¬ ((k : Int) < (cs.length : Int)) ∨ ((k : Int) < (cs.length : Int) ∧ ¬ ((k : Int) < 4)) := by omega
      rcases hcond with h1 | ⟨h1, h2⟩
      all_goals
        go_wp2_with (first
          | (go_at_call 9; refine ho.mono ?_; rintro e w3 ⟨pv, rfl, hD3, hk3, h3, _⟩; obtain ⟨g, rfl, hP3, hg3⟩ := h3 rfl)
          | fail)
        go_ret
        exact ⟨g, _, rfl, (HF.out w3 hD3).1, (HF.out w3 hD3).2, hP3, Nat.le_trans hK.size hg3, hK.then hk3⟩

theorem clean_congr {n : Nat} {S : Nat → List UInt8} {Q Q' : Nat → ByteArray} (h : Clean n S Q) (he : ∀ p, p < n → Q p = Q' p) : Clean n S Q' := ⟨h.1, fun p hp j hj => by rw [← he p hp]; exact h.2 p hp j hj⟩
/-- A commit upon a device that may stand still. -/
theorem commit_stop {w : World} {p : Dp} {D : Dv} {n g : Nat} {Q : Nat → ByteArray} {m c : Int} {bv v : Value} {l : List Chg} (h : Rest w p D n Q m) (hm : m ≤ 900000) (hn2 : n ≤ 160) (hQ : ∀ p, (Q p).size = 256) (hP : Pag w g p n c bv [])
    (hS : Chs (fun k => ¬ p.mem k) w v l) (hok : okC n l) (hc0 : 0 ≤ c) (hc1 : c ≤ 1000000) :
    Calls Tryz.prog 15 #[.pointer (some ⟨g, 0, none⟩), v] w fun e w' => ∃ D' E bv' bl, e = .returned (.int .i64 E) ∧ Dev w' p D' ∧ D'.n = 126 + 4 * n ∧ 0 ≤ D'.c ∧ D'.c ≤ m + 300 ∧ Kp (fun k => p.mem k ∨ k = g) w w' ∧ bl.length ≤ 31 ∧
      ((E = 0 ∧ bl = [] ∧ bv' = bv ∧ Clean n D'.s (withC Q l) ∧ (∀ k, D'.u k = none) ∧ ∃ c', 0 ≤ c' ∧ c' ≤ c + 1 ∧ Pag w' g p n c' bv' bl) ∨ (E = 9 ∧ 0 < bl.length ∧ Pag w' g p n c bv' bl ∧ (∀ i, i < n → rdP D' bl i = Q i) ∧ ∀ S, After D' S → Rec n S Q ∨ Rec n S (withC Q l))) := by
  have hc0' := h.c0
  have hc1' := h.c1
  by_cases hl : l = []
  · have hr : i64s (l.map Chg.page) := by rw [hl]; intro z hz; cases hz
    have hcn := commit_no g n p c bv [] v l _ w hP (by simp) hS hr (.inr hl)
    rw [okC_ref hn2 hok] at hcn
    refine hcn.mono ?_
    rintro e w' ⟨rfl, hk⟩
    exact ⟨D, 0, bv, [], rfl, h.hd.keptN hk, h.hn, h.c0, by omega, hk.mono (fun _ _ h => h.elim), by simp, .inl ⟨rfl, rfl, rfl, by rw [hl]; exact h.hc, h.hu, c, hc0, by omega, hP.keptN hk⟩⟩
  · have hco := commit_ok g n p D c bv v l w hP h.hd h.c0 (Int.le_trans h.c1 hm) (by rw [h.hn]; exact Nat.le_refl _) hn2 h.hu hS hok hl hc0 hc1
    rw [clean_old h.hu h.hc hQ hok] at hco
    obtain ⟨a1, a2⟩ := commit_pure n D Q l h.hn hn2 h.hu h.hc hQ hok
    have hgn := go_n (cmW (oldC Q l) l) D
    have hlen := cmW_len (oldC Q l) l
    have hol : (oldC Q l).length = l.length := by simp [oldC]
    have hm31 := hok.m
    rw [hol] at hlen
    refine hco.mono ?_
    rintro e w' ⟨rfl, hD, hk, hP1, hP2⟩
    by_cases hE : D.goE (cmW (oldC Q l) l) = 0
    · exact ⟨_, _, bv, [], rfl, hD, by rw [hgn.1, h.hn], by omega, by omega, hk, by simp, .inl ⟨hE, rfl, rfl, (a1 hE).1, (a1 hE).2, c + 1, by omega, by omega, hP1 hE⟩⟩
    · obtain ⟨u, hPu⟩ := hP2 hE
      have hl0 : l.length ≠ 0 := fun e => hl (List.eq_nil_of_length_eq_zero e)
      exact ⟨_, _, u, oldC Q l, rfl, hD, by rw [hgn.1, h.hn], by omega, by omega, hk, by omega, .inr ⟨(goE_or _ D).resolve_left hE, by omega, hPu, fun i hi => rdP_old h.hu h.hc hQ hok rfl i hi, a2 hE⟩⟩
/-- What a store of a crash over another asks of its four cells, and leaves. -/
theorem store4 {w : World} {g : Nat} {a b c d : Value} {t : TypeId} (hb : w.heap[g]? = some (.cells #[a, b, c, d] t (0, 0))) (x0 x1 x2 x3 : Value) :
    (w.cell? ⟨g, 0, none⟩ = some a ∧ w.frozen? ⟨g, 0, none⟩ = false) ∧ ((w.setCell ⟨g, 0, none⟩ x0).cell? ⟨g, 1, none⟩ = some b ∧ (w.setCell ⟨g, 0, none⟩ x0).frozen? ⟨g, 1, none⟩ = false) ∧
    (((w.setCell ⟨g, 0, none⟩ x0).setCell ⟨g, 1, none⟩ x1).cell? ⟨g, 2, none⟩ = some c ∧ ((w.setCell ⟨g, 0, none⟩ x0).setCell ⟨g, 1, none⟩ x1).frozen? ⟨g, 2, none⟩ = false) ∧
    ((((w.setCell ⟨g, 0, none⟩ x0).setCell ⟨g, 1, none⟩ x1).setCell ⟨g, 2, none⟩ x2).cell? ⟨g, 3, none⟩ = some d ∧ (((w.setCell ⟨g, 0, none⟩ x0).setCell ⟨g, 1, none⟩ x1).setCell ⟨g, 2, none⟩ x2).frozen? ⟨g, 3, none⟩ = false) ∧
    ((((w.setCell ⟨g, 0, none⟩ x0).setCell ⟨g, 1, none⟩ x1).setCell ⟨g, 2, none⟩ x2).setCell ⟨g, 3, none⟩ x3).cell? ⟨g, 0, none⟩ = some x0 ∧ ((((w.setCell ⟨g, 0, none⟩ x0).setCell ⟨g, 1, none⟩ x1).setCell ⟨g, 2, none⟩ x2).setCell ⟨g, 3, none⟩ x3).cell? ⟨g, 1, none⟩ = some x1 ∧
    ((((w.setCell ⟨g, 0, none⟩ x0).setCell ⟨g, 1, none⟩ x1).setCell ⟨g, 2, none⟩ x2).setCell ⟨g, 3, none⟩ x3).cell? ⟨g, 2, none⟩ = some x2 ∧ ((((w.setCell ⟨g, 0, none⟩ x0).setCell ⟨g, 1, none⟩ x1).setCell ⟨g, 2, none⟩ x2).setCell ⟨g, 3, none⟩ x3).cell? ⟨g, 3, none⟩ = some x3 ∧
    Kp (only g) w ((((w.setCell ⟨g, 0, none⟩ x0).setCell ⟨g, 1, none⟩ x1).setCell ⟨g, 2, none⟩ x2).setCell ⟨g, 3, none⟩ x3) := by
  have ne : ∀ i j, i ≠ j → (⟨g, i, none⟩ : Addr) ≠ ⟨g, j, none⟩ := fun i j hij he => hij (congrArg Addr.off he)
  have c0 : w.cell? ⟨g, 0, none⟩ = some a := by rw [cell_of_row _ _ _ _ _ _ hb]; rfl
  have c1 : w.cell? ⟨g, 1, none⟩ = some b := by rw [cell_of_row _ _ _ _ _ _ hb]; rfl
  have c2 : w.cell? ⟨g, 2, none⟩ = some c := by rw [cell_of_row _ _ _ _ _ _ hb]; rfl
  have c3 : w.cell? ⟨g, 3, none⟩ = some d := by rw [cell_of_row _ _ _ _ _ _ hb]; rfl
  have fr : ∀ j, w.frozen? ⟨g, j, none⟩ = false := fun j => by
    unfold World.frozen?
    rw [show w.heap[(⟨g, j, none⟩ : Addr).block]? = _ from hb]
    simp
  have e1 : (w.setCell ⟨g, 0, none⟩ x0).cell? ⟨g, 1, none⟩ = some b := by rw [World.cell?_setCell_other (h := ne 0 1 (by omega))]; exact c1
  have e2 : ((w.setCell ⟨g, 0, none⟩ x0).setCell ⟨g, 1, none⟩ x1).cell? ⟨g, 2, none⟩ = some c := by rw [World.cell?_setCell_other (h := ne 1 2 (by omega)), World.cell?_setCell_other (h := ne 0 2 (by omega))]; exact c2
  have e3 : (((w.setCell ⟨g, 0, none⟩ x0).setCell ⟨g, 1, none⟩ x1).setCell ⟨g, 2, none⟩ x2).cell? ⟨g, 3, none⟩ = some d := by rw [World.cell?_setCell_other (h := ne 2 3 (by omega)), World.cell?_setCell_other (h := ne 1 3 (by omega)), World.cell?_setCell_other (h := ne 0 3 (by omega))]; exact c3
  refine ⟨⟨c0, fr 0⟩, ⟨e1, by rw [World.frozen?_setCell]; exact fr 1⟩, ⟨e2, by rw [World.frozen?_setCell, World.frozen?_setCell]; exact fr 2⟩, ⟨e3, by rw [World.frozen?_setCell, World.frozen?_setCell, World.frozen?_setCell]; exact fr 3⟩, ?_, ?_, ?_, World.cell?_setCell_same _ _ _ e3, ?_⟩
  · rw [World.cell?_setCell_other (h := ne 3 0 (by omega)), World.cell?_setCell_other (h := ne 2 0 (by omega)), World.cell?_setCell_other (h := ne 1 0 (by omega))]
    exact World.cell?_setCell_same _ _ _ c0
  · rw [World.cell?_setCell_other (h := ne 3 1 (by omega)), World.cell?_setCell_other (h := ne 2 1 (by omega))]
    exact World.cell?_setCell_same _ _ _ e1
  · rw [World.cell?_setCell_other (h := ne 3 2 (by omega))]
    exact World.cell?_setCell_same _ _ _ e2
  · exact (((Kp.setCell (S := only g) _ _ _ _ rfl).then (Kp.setCell _ _ _ _ rfl)).then (Kp.setCell _ _ _ _ rfl)).then (Kp.setCell _ _ _ _ rfl)

end Go.Proofs.YtgfijbbibafdfaaGreat
