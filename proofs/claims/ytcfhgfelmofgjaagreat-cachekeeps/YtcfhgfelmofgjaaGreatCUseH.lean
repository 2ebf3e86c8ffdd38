/- Contract, over the turned program: the document's cache, a page that is kept is used. Conditions: those that the theorem states. -/
import Derived.Test.YtcfhgfelmofgjaaGreatCUse
import Derived.Deep.CutRange
namespace Go.Proofs.YtcfhgfelmofgjaaGreat
open Go.RowKit
set_option linter.unusedVariables false

set_option maxRecDepth 100000 in
set_option maxHeartbeats 3200000 in
theorem cuse_hit {w : World} {r : Nat} {G : Nat → Prop} {sz : Nat} {s : St} (z : Int) (H : Rf w r G sz s) (hn : s.K.Nodup) (hl : s.K.length ≤ sz) (hsz : sz ≤ 64) (hh : s.h + s.m ≤ 1000000000) (hz : z ∈ s.K) :
    Calls Tryz.prog 15 #[.pointer (some ⟨r, 0, none⟩), .int .i64 z] w fun e w' => e = .returned (.tuple #[]) ∧ Rf w' r (fun k => G k ∨ w.heap.size ≤ k) sz ⟨use sz s.K z, s.h + 1, s.m⟩ ∧ Kp (only r) w w' := by
  obtain ⟨a, c, c1, hk⟩ := H.c1
  obtain ⟨K, h, m⟩ := s
  dsimp only at *
  have c0 := H.c0
  have c2 := H.c2
  have c3 := H.c3
  have f1 := H.fr 1
  have f2 := H.fr 2
  have f3 := H.fr 3
  dsimp only at c2 c3
  have HH := hide H
  have hK := hide hk
  obtain ⟨len, HLEN⟩ : ∃ len, Hid (K.length = len) := ⟨_, rfl⟩
  rw [HLEN.out] at c1 hK hl
  obtain ⟨a', c', he, hcap, hcm, hcells⟩ := hk
  cases he
  rw [HLEN.out] at hcap
  have HC := hide hcells
  clear H hcells
  go_enter Tryz.func15, Tryz.ntmps15
  go_wp2
  go_loopw [4, 5] (fun t u wr => w = wr ∧ ∃ (i : Nat) (x : Int), i ≤ len ∧ u = .int .i64 i ∧ t = .int .i64 x ∧ Hid (At K z i x)) (fun t u _ => len - (intOf u).toNat)
  case atStart => exact ⟨rfl, 0, -1, Nat.zero_le _, rfl, rfl, .inl ⟨by simp, rfl⟩⟩
  case round =>
    obtain ⟨rfl, i, x, hi, rfl, rfl, hA⟩ := hrel
    by_cases hlt : i < len
    · have hii : (i : Int) < (len : Int) := by omega
      have hiK : i < K.length := by rw [HLEN.out]; exact hlt
      obtain ⟨b, off, rfl, _, _, hci⟩ := HC.out i hiK
      have hst := At.step hn hiK hA.out
      obtain ⟨y, HY⟩ : ∃ y, Hid (K[i] = y) := ⟨_, hide rfl⟩
      rw [HY.out] at hci hst
      by_cases hyz : y = z
      · have h5 := hide (hst.1 hyz)
        have hyb : (y == z) = true := by simp [hyz]
        clear hst hA hyz
        go_wp2
        go_roundw
        case rel => exact ⟨by first | trivial | rfl, i + 1, (i : Int), by omega, by go_num, rfl, h5⟩
        case measure => simp [intOf]; omega
      · have h5 := hide (hst.2 hyz)
        have hyb : (y == z) = false := by simp [hyz]
        clear hst hA hyz
        go_wp2
        go_roundw
        case rel => exact ⟨by first | trivial | rfl, i + 1, x, by omega, by go_num, rfl, h5⟩
        case measure => simp [intOf]; omega
    · have hil : len = i := by omega
      subst hil
      rcases hA.out with ⟨h1, h2⟩ | ⟨p, q, h1, h2, h3⟩
      · exact absurd hz (by rw [List.take_of_length_le (by rw [HLEN.out]; exact Nat.le_refl _)] at h1; exact h1)
      · subst h3
        have hpl : p.length < len := h2
        obtain ⟨b, off, rfl, hbG, hbl, _⟩ := HC.out 0 (by rw [HLEN.out]; exact Nat.lt_of_le_of_lt (Nat.zero_le _) hpl)
        have hKp : K.take p.length = p := by rw [h1]; simp
        have hKq : K.drop (p.length + 1) = q := by rw [h1, ← List.drop_drop]; simp
        have hpq : (p ++ q).length + 1 = len := by rw [← HLEN.out, h1]; simp; omega
        have hers : K.erase z = p ++ q := by rw [h1]; exact nodup_erase (by rw [← h1]; exact hn)
        have hl64 : len ≤ 64 := Nat.le_trans hl hsz
        obtain ⟨pl, HPL⟩ : ∃ pl, Hid (p.length = pl) := ⟨_, rfl⟩
        have hqn : q.length ≤ 64 := by simp only [List.length_append] at hpq; omega
        rw [HPL.out] at hpl hKp hKq
        rw [HPL.out]
        have hpl64 : pl ≤ 64 := Nat.le_trans (Nat.le_of_lt hpl) hl64
        have hplK : pl ≤ K.length := by rw [HLEN.out]; exact Nat.le_of_lt hpl
        have hplK1 : pl + 1 ≤ K.length := by rw [HLEN.out]; exact hpl
        have hplc : pl ≤ c := Nat.le_trans (Nat.le_of_lt hpl) hcap
        have hp0 : 0 ≤ (pl : Int) := Int.natCast_nonneg _
        have p1 := Put.set w r 2 (.int .i64 ((h : Int) + 1)) _ c2
        obtain ⟨Wb, HWb⟩ : ∃ Wb, Hid (w.setCell ⟨r, 2, none⟩ (.int .i64 ((h : Int) + 1)) = Wb) := ⟨_, rfl⟩
        rw [HWb.out] at p1
        have b1 : Wb.cell? ⟨r, 1, none⟩ = some (.slice (some ⟨b, off, none⟩) len c) := by rw [p1.old _ _ (.inr (by decide))]; exact c1
        have b1d : Wb.drew.cell? ⟨r, 1, none⟩ = some (.slice (some ⟨b, off, none⟩) len c) := b1
        have hkb := (hK.out.kept p1.kp (fun k hk e => hk.2 e)).kept (Kp.drew none' Wb) (fun _ _ h => h)
        have hkp := hkb.take pl hplK
        rw [hKp] at hkp
        have hszW : Wb.drew.heap.size = w.heap.size := p1.sz
        obtain ⟨v1, w1, hap1, hO1, hg1, hv1⟩ := app_ints Wb.drew w.heap.size (.slice none 0 0) [] (.slice (some ⟨b, off, none⟩) pl c) p (Ow.nil _ _ _ _) (by have := hkp.src; rw [HPL.out] at this; rw [HPL.out]; exact this) (by rw [hszW]; exact Nat.le_refl _) (by rw [HPL.out, List.length_nil, Nat.zero_add]; exact Nat.le_trans hpl64 (by decide))
        rw [List.nil_append] at hO1
        have hk1 : Kp none' Wb.drew w1 := Kp.ofGrown hg1 (fun k he _ => by cases he)
        have hkq : ∀ a', (pl + 1 < K.length → a' = some ⟨b, off + (pl + 1), none⟩) → Kps (fun k => G k ∧ k ≠ r) w1 (.slice a' (K.length - (pl + 1)) (c - (pl + 1))) q := fun a' ha' => by
          have := (hkb.kept hk1 (fun _ _ h => h)).drop (pl + 1) hplK1 a' ha'
          rw [hKq] at this
          exact this
        obtain ⟨a1', c1'', rfl, _⟩ := hO1.open
        have HKP := hide hKp
        have HPQ := hide hpq
        have HERS := hide hers
        have HSZW := hide hszW
        have HKQ := hide hkq
        have HAP1 := hide hap1
        clear h1 hKp hKq hpq hers hszW hkq hA hap1 hkb hkp hv1
        go_upto_region 8 with fail
        rw [HWb.out]
        have hap1 := HAP1.out
        rw [HPL.out] at hap1 hO1
        have hcz : ¬ c < pl := by omega
        have hcz1 : pl + 1 ≤ c := by omega
        have hpl1 : pl + 1 ≤ len := hpl
        have b1w := hk1.cell b1d (fun h => h)
        have hb0 : 0 ≤ (pl : Int) + 1 := by omega
        have hb1 : (pl : Int) + 1 ≤ (len : Int) := by omega
        obtain ⟨A2, hA2, hA2'⟩ : ∃ A2, (if c = pl + 1 then some (⟨b, off, none⟩ : Addr) else some ⟨b, off + (pl + 1), none⟩) = A2 ∧ (pl + 1 < K.length → A2 = some ⟨b, off + (pl + 1), none⟩) := by
          refine ⟨_, rfl, fun hlt => ?_⟩
          rw [HLEN.out] at hlt
          rw [if_neg (by omega)]
        have hkq := HKQ.out A2 hA2'
        rw [HLEN.out] at hkq
        have hqle : q.length = len - (pl + 1) := by
          have e1 := HPQ.out
          rw [List.length_append, HPL.out] at e1
          omega
        obtain ⟨v2, w2, hap2, hO2, hg2, hv2⟩ := app_ints w1 w.heap.size (.slice a1' pl c1'') p (.slice A2 (len - (pl + 1)) (c - (pl + 1))) q hO1 (by have := hkq.src; rw [hqle] at this; rw [hqle]; exact this) (by have := hk1.size; rw [HSZW.out] at this; exact this) (by rw [HPL.out]; omega)
        have hkO := hO2.kps
        obtain ⟨a2, c2', rfl, hc2a, hc2b, _⟩ := hkO
        have hk2 : Kp (fun k => (Value.slice a1' pl c1'').ownBlock = some k) w1 w2 := Kp.ofGrown hg2 (fun k he _ => he)
        have hown : ∀ k, (Value.slice a1' pl c1'').ownBlock = some k → w.heap.size ≤ k := fun k he => (hO1.lt k he).1
        have hrw : r < w.heap.size := lt_of_cell c0
        have b2w := hk2.cell b1w (fun he => by have := hown r he; omega)
        have f2w : w2.frozen? ⟨r, 1, none⟩ = false := by
          rw [hk2.frozen (lt_of_cell b1w) (fun he => by have := hown r he; omega), hk1.frozen (lt_of_cell b1d) (fun h => h)]
          show Wb.frozen? _ = false
          rw [p1.fr]
          exact f1
        obtain ⟨len1, HLL⟩ : ∃ len1, Hid ((p ++ q).length = len1) := ⟨_, rfl⟩
        rw [HLL.out] at hap2 hO2
        have p2 := Put.set w2 r 1 (.slice a2 len1 c2') _ b2w
        obtain ⟨Wa, HWa⟩ : ∃ Wa, Hid (w2.setCell ⟨r, 1, none⟩ (.slice a2 len1 c2') = Wa) := ⟨_, rfl⟩
        rw [HWa.out] at p2
        have K2 : Kp (only r) w w2 := ((p1.kp.thenN (Kp.drew _ _)).thenN hk1).trans hk2 (fun _ _ h => h) (fun k hk he => absurd hk (by have := hown k he; omega))
        have KA : Kp (only r) w Wa := K2.then p2.kp
        have hcell : ∀ j x, j ≠ 1 → Wb.cell? ⟨r, j, none⟩ = some x → Wa.cell? ⟨r, j, none⟩ = some x := fun j x hj hx => by
          rw [p2.old _ _ (.inr hj)]
          exact hk2.cell (hk1.cell (show Wb.drew.cell? ⟨r, j, none⟩ = some x from hx) (fun h => h)) (fun he => by have := hown r he; omega)
        have e0 : Wa.cell? ⟨r, 0, none⟩ = some (.int .i64 (sz : Int)) := hcell 0 _ (by omega) (by rw [p1.old _ _ (.inr (by omega))]; exact c0)
        have e1 := p2.same
        have e2 : Wa.cell? ⟨r, 2, none⟩ = some (.int .i64 ((h : Int) + 1)) := hcell 2 _ (by omega) p1.same
        have e3 : Wa.cell? ⟨r, 3, none⟩ = some (.int .i64 (m : Int)) := hcell 3 _ (by omega) (by rw [p1.old _ _ (.inr (by omega))]; exact c3)
        have ef : ∀ j, Wa.frozen? ⟨r, j, none⟩ = false := fun j => by
          rw [p2.fr, hk2.frozen (lt_of_cell b1w) (fun he => by have := hown r he; omega), hk1.frozen (lt_of_cell b1d) (fun h => h)]
          show Wb.frozen? _ = false
          rw [p1.fr]
          exact HH.out.fr j
        have hk1' : Kps (fun k => w.heap.size ≤ k) Wa (.slice a2 len1 c2') (p ++ q) := hO2.kps.kept p2.kp (fun k hk e => by have e' : k = r := e; omega)
        have HK1 := hide hk1'
        obtain ⟨h1', HH1⟩ : ∃ h1' : Nat, Hid (h + 1 = h1') := ⟨_, rfl⟩
        rw [show ((h : Int) + 1) = (h1' : Int) by rw [← HH1.out]; rfl] at e2
        obtain ⟨m1', HMM⟩ : ∃ m1' : Nat, Hid (m = m1') := ⟨_, rfl⟩
        rw [HMM.out] at e3
        have HEF := hide ef
        have HKA := hide KA
        have HE0 := hide e0
        have HE1 := hide e1
        have HE2 := hide e2
        have HE3 := hide e3
        have HL1 : Hid ((p ++ q).length = len1) := HLL
        have hl1 : len1 ≤ 64 := by have := HLL.out; have := HPQ.out; omega
        have HAP2 := hide hap2
        clear hk1' hkq hO1 hO2 hg1 hg2 hv2 hk1 hk2 K2 KA hcell e0 e1 e2 e3 ef hown p1 p2 hA2' hqle hap2 HAP1 HKQ
        have hwi : IntKind.i64.wrap ((pl : Int) + 1) = ((pl + 1 : Nat) : Int) := by rw [IntKind.wrap_i64]; omega
        have HEND : Hid ((⟨([z] ++ (p ++ q)).take sz, h1', m1'⟩ : St) = ⟨use sz K z, h + 1, m⟩) := by
          show _ = _
          rw [← HMM.out, ← HH1.out]
          unfold use
          rw [if_pos hz, HERS.out, List.take_of_length_le (by have := HPQ.out; simp only [List.length_append, List.length_cons, List.length_nil] at *; omega)]
          rfl
        obtain ⟨K1, HKK⟩ : ∃ K1, Hid (p ++ q = K1) := ⟨_, rfl⟩
        rw [HKK.out] at HK1 HL1 HEND
        go_cut [49] from 34 to 51 (fun t W => Wa = W)
        case rest =>
          obtain rfl := hcut
          have e0 := HE0.out
          have e1 := HE1.out
          have e2 := HE2.out
          have e3 := HE3.out
          have ef := HEF.out
          have KA := HKA.out
          have hk1 := HK1.out
          clear hap1 b1 b1d b1w b2w c0 c1 c2 c3 f1 f2 f3 f2w hwi hA2 HAP2 hpl64 hplK hplK1 hplc hp0 hcz hcz1 hpl1 hb0 hb1
          obtain ⟨B1, HB1⟩ : ∃ B1, Hid (Wa.heap.size = B1) := ⟨_, rfl⟩
          have k2 := Kp.alloc none' Wa (.cells #[.int .i64 z] 3)
          have s2 : (Wa.alloc (.cells #[.int .i64 z] 3)).heap.size = B1 + 1 := by rw [← HB1.out]; simp
          have hOz : Ow (Value.int .i64) 3 (Wa.alloc (.cells #[.int .i64 z] 3)) B1 (.slice (some ⟨B1, 0, none⟩) 1 1) [z] := ⟨by simp, .inr ⟨B1, 1, #[.int .i64 z], rfl, Nat.le_refl _, by rw [← HB1.out]; exact heap_alloc_new Wa _, Nat.le_refl _, by unfold maxLen; omega, by simp, by simp⟩⟩
          have hk2 := hk1.kept k2 (fun _ _ h => h)
          have g1 := k2.cell e1 (fun h => h)
          have hrB : r < B1 := by rw [← HB1.out]; exact lt_of_cell e1
          obtain ⟨W2, H2⟩ : ∃ W2, Hid (Wa.alloc (.cells #[.int .i64 z] 3) = W2) := ⟨_, rfl⟩
          rw [H2.out] at k2 s2 hOz hk2 g1
          obtain ⟨v3, w3, hap, hO3, hg3, hv3⟩ := app_ints W2 B1 (.slice (some ⟨B1, 0, none⟩) 1 1) [z] (.slice a2 len1 c2') K1 hOz hk2.src (by omega) (by have := HL1.out; simp only [List.length_cons, List.length_nil]; omega)
          have hk3 : Kp (fun k => k = B1) W2 w3 := Kp.ofGrown hg3 (fun k he _ => by cases he; rfl)
          have hOp := hO3.kps
          obtain ⟨a3, c3', rfl, hcap3, hcm3, hcl3⟩ := hOp
          obtain ⟨b3, o3, rfl, _⟩ := hcl3 0 (by simp)
          clear hcl3
          rw [show ([z] ++ K1).length = len1 + 1 by have := HL1.out; simp only [List.length_append, List.length_cons, List.length_nil]; omega] at hO3 hap hcap3 hv3
          have q1 := hk3.cell g1 (by omega)
          have qf : w3.frozen? ⟨r, 1, none⟩ = false := by rw [hk3.frozen (by omega) (by omega), k2.frozen (by rw [HB1.out]; exact hrB) (fun h => h)]; exact ef 1
          have p4 := Put.set w3 r 1 (.slice (some ⟨b3, o3, none⟩) (len1 + 1) c3') _ q1
          obtain ⟨W4, H4⟩ : ∃ W4, Hid (w3.setCell ⟨r, 1, none⟩ (.slice (some ⟨b3, o3, none⟩) (len1 + 1) c3') = W4) := ⟨_, rfl⟩
          rw [H4.out] at p4
          have K3 : Kp (fun k => k = B1) Wa w3 := (k2.mono (fun _ _ h => h.elim)).then hk3
          have x0 : W4.cell? ⟨r, 0, none⟩ = some (.int .i64 (sz : Int)) := by rw [p4.old _ _ (.inr (by omega))]; exact K3.cell e0 (by omega)
          have x1 := p4.same
          have x2 : W4.cell? ⟨r, 2, none⟩ = some (.int .i64 (h1' : Int)) := by rw [p4.old _ _ (.inr (by omega))]; exact K3.cell e2 (by omega)
          have x3 : W4.cell? ⟨r, 3, none⟩ = some (.int .i64 (m1' : Int)) := by rw [p4.old _ _ (.inr (by omega))]; exact K3.cell e3 (by omega)
          have xf : ∀ j, W4.frozen? ⟨r, j, none⟩ = false := fun j => by rw [p4.fr, K3.frozen (by rw [HB1.out]; exact hrB) (by omega)]; exact ef j
          have hk4 : Kps (fun k => B1 ≤ k) W4 (.slice (some ⟨b3, o3, none⟩) (len1 + 1) c3') ([z] ++ K1) := hO3.kps.kept p4.kp (fun k hk e => by have e' : k = r := e; omega)
          have K4 : Kp (only r) w W4 := (KA.trans K3 (fun _ _ h => h) (fun k hk e => absurd hk (by have := KA.size; have := HB1.out; omega))).then p4.kp
          have hwB : w.heap.size ≤ B1 := by rw [← HB1.out]; exact KA.size
          have xf1 := xf 1
          clear hO3 hk1 hk2 hOz hg3 hv3 KA K3 k2 hk3 e2 e3
          rw [← H2.out, ← HB1.out] at hap
          rw [← H2.out] at g1
          go_upto_region 11 with (first | (at_builtin; refine wpList_app_at rfl (.tmp 61) (.tmp 65) 46 46 rfl _ _ rfl rfl hap ?_) | fail)
          rw [H4.out]
          have y0 : W4.drew.cell? ⟨r, 0, none⟩ = some (.int .i64 (sz : Int)) := x0
          by_cases hgt : sz < len1 + 1
          · have hgi : (sz : Int) < ((len1 + 1 : Nat) : Int) := by omega
            have hgi2 : (sz : Int) < (len1 : Int) + 1 := by omega
            have hsc : sz ≤ c3' := by omega
            have hks := hk4.take sz (by have := HL1.out; simp only [List.length_append, List.length_cons, List.length_nil]; omega)
            have y1 : W4.drew.cell? ⟨r, 1, none⟩ = some (.slice (some ⟨b3, o3, none⟩) (len1 + 1) c3') := x1
            have yf : W4.drew.frozen? ⟨r, 1, none⟩ = false := xf1
            have p5 := Put.set W4.drew r 1 (.slice (some ⟨b3, o3, none⟩) sz c3') _ y1
            have HFIN : Hid (∀ W, Put W4 W r 1 (.slice (some ⟨b3, o3, none⟩) sz c3') → Rf W r (fun k => G k ∨ w.heap.size ≤ k) sz ⟨([z] ++ K1).take sz, h1', m1'⟩ ∧ Kp (only r) w W) := fun W pw => by
              have hlt : (([z] ++ K1).take sz).length = sz := by rw [List.length_take]; have := HL1.out; simp only [List.length_append, List.length_cons, List.length_nil]; omega
              refine ⟨⟨by rw [pw.old _ _ (.inr (by omega))]; exact x0, ⟨some ⟨b3, o3, none⟩, c3', by dsimp only; rw [hlt]; exact pw.same, ?_⟩, by rw [pw.old _ _ (.inr (by omega))]; exact x2, by rw [pw.old _ _ (.inr (by omega))]; exact x3, fun j => by rw [pw.fr]; exact xf j⟩, K4.then pw.kp⟩
              dsimp only
              rw [hlt]
              exact (hks.kept pw.kp (fun k hk e => by have e' : k = r := e; omega)).mono (fun k _ hk => ⟨.inr (by omega), by omega⟩)
            clear hks K4 xf hk4 p4 x2 x3
            go_region
            all_goals go_wp2
            all_goals go_region
            all_goals go_wp2
            all_goals first | go_end0 | ((try simp only [Exit.inBlock, Exit.then]); refine bodyPost_ret (results_none rfl _ _ _) rfl ?_)
            all_goals (
              have hfin := HFIN.out _ ((Put.set W4 r 1 (.slice (some ⟨b3, o3, none⟩) sz c3') _ x1).drew.drew)
              rw [HEND.out] at hfin
              exact ⟨rfl, hfin⟩)
          · have hgi : ¬ (sz : Int) < ((len1 + 1 : Nat) : Int) := by omega
            have hgi2 : ¬ (sz : Int) < (len1 : Int) + 1 := by omega
            have HFIN : Hid (Rf W4.drew r (fun k => G k ∨ w.heap.size ≤ k) sz ⟨([z] ++ K1), h1', m1'⟩ ∧ Kp (only r) w W4.drew) := by
              have hlt : ([z] ++ K1).length = len1 + 1 := by have := HL1.out; simp only [List.length_append, List.length_cons, List.length_nil]; omega
              refine ⟨⟨x0, ⟨some ⟨b3, o3, none⟩, c3', by dsimp only; rw [hlt]; exact x1, ?_⟩, x2, x3, xf⟩, K4.thenN (Kp.drew _ _)⟩
              dsimp only
              rw [hlt]
              exact (hk4.kept (Kp.drew none' W4) (fun _ _ h => h)).mono (fun k _ hk => ⟨.inr (by omega), by omega⟩)
            clear K4 xf hk4 p4 x2 x3
            go_region
            all_goals go_wp2
            all_goals first | go_end0 | ((try simp only [Exit.inBlock, Exit.then]); refine bodyPost_ret (results_none rfl _ _ _) rfl ?_)
            all_goals (
              have hfin := HFIN.out
              rw [show [z] ++ K1 = ([z] ++ K1).take sz by rw [List.take_of_length_le (by have := HL1.out; simp only [List.length_append, List.length_cons, List.length_nil]; omega)], HEND.out] at hfin
              exact ⟨rfl, hfin⟩)
        case first =>
          go_region_law (first
            | (refine pstep_app_at (by rfl) (.const (.slice none 0 0)) (.tmp 40) 46 46 (by rfl) _ _ (by rfl) (by rfl) hap1 ?_)
            | (refine pstep_app_at (by rfl) (.tmp 41) (.tmp 48) 46 46 (by rfl) _ _ (by rfl) (by rfl) HAP2.out ?_)
            | fail)
          all_goals go_wp2
          all_goals go_meet
          all_goals exact HWa.out.symm

end Go.Proofs.YtcfhgfelmofgjaaGreat
