/- Contracts, over the turned program: the document's Crash, and a step of the document's device. Conditions: those that each theorem states. -/
import Derived.Test.YtlalnaaeljikgaaDRefN
namespace Go.Proofs.Ytlalnaaeljikgaa
open Go.RowKit
set_option linter.unusedVariables false

/-- What is there, and what isn't sure, behind the first k unsure places of a crash. -/
def crA (D : Dv) (l : List Bool) (torn cut : Int) : Nat → Nat → List UInt8
  | 0 => D.at
  | k + 1 => updF (crA D l torn cut k) ((unsL D).getD k 0) (crN D l torn cut (k + 1) ((unsL D).getD k 0))
def crU (D : Dv) : Nat → Nat → Bool
  | 0 => fun i => (D.u i).isSome
  | k + 1 => updF (crU D k) ((unsL D).getD k 0) false
def crK (D : Dv) (l : List Bool) (torn cut : Int) (k : Nat) : Rv := { n := D.n, s := crN D l torn cut k, a := crA D l torn cut k, u := crU D k, c := D.c, h := (Rv.of D).h }
theorem crA_out (D : Dv) (l : List Bool) (torn cut : Int) (i : Nat) : ∀ m, (∀ j, j < m → (unsL D).getD j 0 ≠ i) → crA D l torn cut m i = D.at i
  | 0, _ => rfl
  | m + 1, h => by
    rw [crA, updF_other _ _ _ _ (fun e => h m (by omega) e.symm)]
    exact crA_out D l torn cut i m (fun j hj => h j (by omega))
theorem crU_out (D : Dv) (i : Nat) : ∀ m, (∀ j, j < m → (unsL D).getD j 0 ≠ i) → crU D m i = (D.u i).isSome
  | 0, _ => rfl
  | m + 1, h => by
    rw [crU, updF_other _ _ _ _ (fun e => h m (by omega) e.symm)]
    exact crU_out D i m (fun j hj => h j (by omega))
theorem crA_in (D : Dv) (l : List Bool) (torn cut : Int) (j : Nat) : ∀ m, j < m → crA D l torn cut m ((unsL D).getD j 0) = crN D l torn cut m ((unsL D).getD j 0) ∧ crU D m ((unsL D).getD j 0) = false
  | 0, h => by omega
  | m + 1, h => by
    by_cases e : (unsL D).getD j 0 = (unsL D).getD m 0
    · rw [e]
      exact ⟨by rw [crA, updF_same], by rw [crU, updF_same]⟩
    · have hj : j < m := by
        rcases (by omega : j < m ∨ j = m) with h | h
        · exact h
        · subst h; exact absurd rfl e
      obtain ⟨h1, h2⟩ := crA_in D l torn cut j m hj
      refine ⟨?_, by rw [crU, updF_other _ _ _ _ e]; exact h2⟩
      rw [crA, updF_other _ _ _ _ e, h1]
      conv => rhs; rw [crN, upd, if_neg e]
theorem uns_ne (D : Dv) (k : Nat) (hk : k < (unsL D).length) : ∀ j, j < k → (unsL D).getD j 0 ≠ (unsL D)[k] := fun j hj e => by
  rw [getD_of _ 0 j (by omega)] at e
  have := nodup_at (unsL_nodup D) (by omega) hk e
  omega
theorem ref_crashed {w : World} {p : Rp} {D : Dv} {l : List Bool} {torn cut : Int} (h : Ref w p { crK D l torn cut (unsL D).length with h := -1 }) : Ref w p (Rv.of (D.crash l torn cut)) := by
  have hm : ∀ i, i ∈ unsL D ∨ (∀ j, j < (unsL D).length → (unsL D).getD j 0 ≠ i) := fun i => by
    by_cases hi : i ∈ unsL D
    · exact .inl hi
    · refine .inr (fun j hj e => hi ?_)
      rw [getD_of _ 0 j hj] at e
      rw [← e]
      exact List.getElem_mem hj
  refine h.congr rfl rfl rfl (fun i _ => rfl) (fun i hi => ?_) (fun i hi => ?_)
  · show crN D l torn cut (unsL D).length i = crA D l torn cut (unsL D).length i
    rcases hm i with hi' | hi'
    · obtain ⟨j, hj, rfl⟩ := List.getElem_of_mem hi'
      have := (crA_in D l torn cut j _ hj).1
      rw [getD_of _ 0 j hj] at this
      exact this.symm
    · rw [crN_out D l torn cut i _ hi', crA_out D l torn cut i _ hi']
      have hn : i ∉ unsL D := fun h => by
        obtain ⟨j, hj, rfl⟩ := List.getElem_of_mem h
        exact hi' j hj (getD_of _ 0 j hj)
      have hu : D.u i = none := by
        cases hu : D.u i with
        | none => rfl
        | some y => exact absurd (mem_unsL.2 ⟨hi, by simp [hu]⟩) hn
      simp [Dv.at, hu]
  · show false = crU D (unsL D).length i
    rcases hm i with hi' | hi'
    · obtain ⟨j, hj, rfl⟩ := List.getElem_of_mem hi'
      have := (crA_in D l torn cut j _ hj).2
      rw [getD_of _ 0 j hj] at this
      exact this.symm
    · rw [crU_out D i _ hi']
      have hn : i ∉ unsL D := fun h => by
        obtain ⟨j, hj, rfl⟩ := List.getElem_of_mem h
        exact hi' j hj (getD_of _ 0 j hj)
      cases hu : D.u i with
      | none => rfl
      | some y => exact absurd (mem_unsL.2 ⟨hi, by simp [hu]⟩) hn

theorem mix_str (x y : List UInt8) (N : Nat) (hx : x.length = 64) : (⟨y.toArray⟩ : ByteArray).extract 0 N ++ (⟨x.toArray⟩ : ByteArray).extract N 64 = ⟨(mixS x y N).toArray⟩ := by
  apply ByteArray.ext
  rw [ByteArray.data_append, ByteArray.data_extract, ByteArray.data_extract, List.extract_toArray, List.extract_toArray, List.extract_eq_take_drop, List.extract_eq_take_drop, List.append_toArray]
  congr 1
  unfold mixS
  rw [List.drop_zero, Nat.sub_zero, List.take_of_length_le (i := 64 - N) (l := x.drop N) (by rw [List.length_drop]; omega)]

set_option maxRecDepth 100000 in
set_option maxHeartbeats 1600000 in
theorem rcrash_any (p : Rp) (D : Dv) (kv : Value) (l : List Bool) (torn cut : Int) (B : Nat) (w : World) (hR : Ref w p (Rv.of D)) (hK : Sl Value.bool B w kv l) (hB : ∀ k, p.mem k → B ≤ k) :
    Calls Try.prog 32 #[.pointer (some ⟨p.r, 0, none⟩), kv, .int .i64 torn, .int .i64 cut] w fun e w' => e = .returned (.tuple #[]) ∧ Ref w' p (Rv.of (D.crash l torn cut)) ∧ Kp p.mem w w' := by
  have h4 : D.n ≤ 4096 := hR.n4
  have hlu := unsL_le D
  go_enter Try.func32, Try.ntmps32
  go_upto_region 1 with (go_at_call 18; refine (runsure_any p (Rv.of D) _ hR).mono ?_; rintro e w1 ⟨v8, rfl, hO, hk1⟩)
  rw [show unsK (Rv.of D) (Rv.of D).n = unsI D from rfl] at hO
  have hR1 : Ref w1 p (crK D l torn cut 0) := hR.keptN hk1
  have hK1 := hK.kept hk1 (fun _ _ h => h)
  have HOm : Hid (∀ k, v8.ownBlock = some k → ¬ p.mem k) := fun k hk hm => by have := (hO.lt k hk).1; have := hR.lt k hm; omega
  have hlI := unsI_len D
  obtain ⟨a8, c8, rfl, ha8⟩ := hO.open
  rw [hlI]
  have HA8 : Hid (∀ (wr : World), Kp p.mem w1 wr → ∀ k (hk : k < (unsL D).length), ∃ g, a8 = some ⟨g, 0, none⟩ ∧ g < wr.heap.size ∧ ¬ p.mem g ∧ wr.cell? ⟨g, k, none⟩ = some (.int .i64 ((unsL D)[k] : Int))) := fun wr hKr k hk => by
    obtain ⟨g, rfl, _, hc⟩ := ha8 k (by rw [hlI]; exact hk)
    have eI : (unsI D)[k]'(by rw [hlI]; exact hk) = ((unsL D)[k] : Int) := by simp [unsI]
    rw [eI] at hc
    have hnm : ¬ p.mem g := HOm.out g rfl
    exact ⟨g, rfl, Nat.lt_of_lt_of_le (lt_of_cell hc) hKr.size, hnm, hKr.cell hc hnm⟩
  have HK1 : Hid (Kp none' w w1) := hk1
  clear hR hO hk1 ha8 hK HOm
  go_upto_region 2 with fail
  go_loopw [9] (fun t wr => ∃ k : Nat, k ≤ (unsL D).length ∧ t = .int .i64 k ∧ Ref wr p (crK D l torn cut k) ∧ Kp p.mem w1 wr) (fun t _ => (unsL D).length - (intOf t).toNat)
  case atStart => exact ⟨0, Nat.zero_le _, rfl, hR1, Kp.refl _ _⟩
  case round =>
    obtain ⟨k, hk, rfl, hRr, hKr⟩ := hrel
    clear hR1
    by_cases hlt : k < (unsL D).length
    · obtain ⟨g8, rfl, hg8, hnm, hc8⟩ := HA8.out wr hKr k hlt
      have hin : (unsL D)[k] < D.n := unsL_lt D _ (List.getElem_mem hlt)
      have HS := hide (crN_out D l torn cut _ k (uns_ne D k hlt))
      have HAt := hide (crA_out D l torn cut _ k (uns_ne D k hlt))
      have HG := hide (getD_of (unsL D) 0 k hlt)
      obtain ⟨y0, hy0⟩ := unsL_some (List.getElem_mem hlt : (unsL D)[k] ∈ unsL D)
      have HLk : Hid (lookV D.u (unsL D)[k] = D.at (unsL D)[k]) := by show _ = _; simp [lookV, Dv.at, hy0]
      clear hy0
      obtain ⟨i, Hi⟩ : ∃ i, Hid ((unsL D)[k]'hlt = i) := ⟨_, rfl⟩
      rw [Hi.out] at hc8 hin HS HAt HG HLk
      have c0 := hRr.c0
      obtain ⟨ha, hne⟩ := hRr.qa (by show 0 < D.n; omega)
      rw [ha, show (crK D l torn cut k).n = D.n from rfl] at c0
      have q0 := hRr.p0 i hin
      have q1 := hRr.p1 i hin
      have q2 := hRr.p2 i hin
      have x64 := hRr.l1 i hin
      have y64 := hRr.l2 i hin
      rw [show (crK D l torn cut k).s i = D.s i from HS.out] at q0 x64
      rw [show (crK D l torn cut k).a i = D.at i from HAt.out] at q1 y64
      obtain ⟨x, Hx⟩ : ∃ x, Hid (D.s i = x) := ⟨_, rfl⟩
      obtain ⟨y, Hy⟩ : ∃ y, Hid (D.at i = y) := ⟨_, rfl⟩
      rw [Hx.out] at q0 x64 HS
      rw [Hy.out] at q1 y64 HAt HLk
      unfold strV at q0 q1
      obtain ⟨X, HX⟩ : ∃ X : ByteArray, Hid ((⟨x.toArray⟩ : ByteArray) = X) := ⟨_, rfl⟩
      obtain ⟨Y, HY⟩ : ∃ Y : ByteArray, Hid ((⟨y.toArray⟩ : ByteArray) = Y) := ⟨_, rfl⟩
      rw [HX.out] at q0
      rw [HY.out] at q1
      obtain ⟨b, Hb⟩ : ∃ b, Hid ((crK D l torn cut k).u i = b) := ⟨_, rfl⟩
      rw [Hb.out] at q2
      have hki : (k : Int) < ((unsL D).length : Int) := by omega
      have hii : (i : Int) < (D.n : Int) := by omega
      have kS : ∀ W : World, Kp none' wr W → W.cell? ⟨p.r, 0, none⟩ = some (.slice (some ⟨p.q, 0, none⟩) D.n p.cap) ∧ W.cell? ⟨g8, k, none⟩ = some (.int .i64 (i : Int)) ∧ W.cell? ⟨p.q, i * 3, none⟩ = some (.string X) ∧ W.cell? ⟨p.q, i * 3 + 1, none⟩ = some (.string Y) ∧ W.cell? ⟨p.q, i * 3 + 2, none⟩ = some (.bool b) := fun W h =>
        ⟨h.cell c0 (fun h => h), h.cell hc8 (fun h => h), h.cell q0 (fun h => h), h.cell q1 (fun h => h), h.cell q2 (fun h => h)⟩
      have r1 : Kp none' wr wr.drew := Kp.drew _ _
      have r2 : Kp none' wr (wr.drew.alloc (.cells #[.string ⟨#[]⟩, .string ⟨#[]⟩, .bool false] 62)) := r1.then (Kp.alloc _ _ _)
      have r3 : Kp none' wr (wr.alloc (.cells #[.string X, .string Y, .bool b] 62)).drew := (Kp.alloc _ _ _).then (Kp.drew _ _)
      have hnr := new_row wr #[.string X, .string Y, .bool b] 62
      have HR : Hid (Ref wr p (crK D l torn cut k)) := hRr
      have HKr : Hid (Kp p.mem w1 wr) := hKr
      clear hRr hKr c0 hc8 q0 q1 q2
      go_upto_region 4 with fail
      go_region_held_law (fun W => W.cell? ⟨p.r, 0, none⟩ = some (.slice (some ⟨p.q, 0, none⟩) D.n p.cap) ∧ W.cell? ⟨g8, k, none⟩ = some (.int .i64 (i : Int)) ∧ W.cell? ⟨p.q, i * 3, none⟩ = some (.string X) ∧ W.cell? ⟨p.q, i * 3 + 1, none⟩ = some (.string Y) ∧ W.cell? ⟨p.q, i * 3 + 2, none⟩ = some (.bool b))
        (first | exact kS _ r1 | exact kS _ r2 | exact kS _ r3) (fail)
      obtain ⟨g, Hg⟩ : ∃ g, Hid (wr.heap.size = g) := ⟨_, rfl⟩
      have t0 : (wr.alloc (.cells #[.string X, .string Y, .bool b] 62)).drew.cell? ⟨g, 0, none⟩ = some (.string X) := by rw [← Hg.out]; exact (cell_of_row _ _ _ _ _ _ hnr).trans rfl
      have t1 : (wr.alloc (.cells #[.string X, .string Y, .bool b] 62)).drew.cell? ⟨g, 1, none⟩ = some (.string Y) := by rw [← Hg.out]; exact (cell_of_row _ _ _ _ _ _ hnr).trans rfl
      obtain ⟨w3, H3⟩ : ∃ w3, Hid ((wr.alloc (.cells #[.string X, .string Y, .bool b] 62)).drew = w3) := ⟨_, rfl⟩
      rw [H3.out] at t0 t1 r3
      rw [H3.out, Hg.out]
      have HS3 := hide kS
      clear hnr r1 r2 kS
      obtain ⟨m, Hm⟩ : ∃ m, Hid (mixS x y (staysN k l torn cut) = m) := ⟨_, rfl⟩
      have m64 : m.length = 64 := by rw [← Hm.out]; exact mixS_len _ x64 y64 (staysN_le k l torn cut)
      obtain ⟨M, HM⟩ : ∃ M : ByteArray, Hid ((⟨m.toArray⟩ : ByteArray) = M) := ⟨_, rfl⟩
      have HE : Hid (crK D l torn cut (k + 1) = { n := D.n, s := updF (crN D l torn cut k) i m, a := updF (crA D l torn cut k) i m, u := updF (crU D k) i false, c := D.c, h := (Rv.of D).h }) := by
        have e1 : crN D l torn cut (k + 1) = updF (crN D l torn cut k) i m := by rw [crN, HG.out, HS.out, HLk.out, Hm.out]; rfl
        show _ = _
        unfold crK
        rw [crA, crU, HG.out, e1, updF_same]
      have hXs : X.size = 64 := by rw [← HX.out]; exact x64
      have hYs : Y.size = 64 := by rw [← HY.out]; exact y64
      go_upto_if 35 with fail
      go_cut [11, 12] from 15 to 73 (fun t11 t12 W => t11 = .string M ∧ Kp none' w3 W)
      case rest =>
        obtain ⟨rfl, hkc⟩ := hcut
        have hkd : Kp none' wr wc.drew := (r3.then hkc).then (Kp.drew _ _)
        obtain ⟨s0, s8, s1, s2, s3⟩ := HS3.out _ hkd
        have hRd := HR.out.keptN hkd
        have f0 := hRd.fq (i * 3)
        have f1 := hRd.fq (i * 3 + 1)
        have f2 := hRd.fq (i * 3 + 2)
        have hg8q : g8 ≠ p.q := fun e => hnm (.inr e)
        have hK9 : Kp p.mem w1 wc.drew := HKr.out.thenN hkd
        have hR5 := ((hRd.setS i hin m m64).setA i hin m m64).setU i hin false
        have hK5 := (((Kp.setCell wc.drew p.q (i * 3) (strV m) (.inr rfl) : Kp p.mem _ _)).then (Kp.setCell _ p.q (i * 3 + 1) (strV m) (.inr rfl))).then (Kp.setCell _ p.q (i * 3 + 2) (.bool false) (.inr rfl))
        unfold strV at hR5 hK5
        rw [HM.out] at hR5 hK5
        have HF : Hid (Ref (((wc.setCell ⟨p.q, i * 3, none⟩ (.string M)).setCell ⟨p.q, i * 3 + 1, none⟩ (.string M)).setCell ⟨p.q, i * 3 + 2, none⟩ (.bool false)).drew p (crK D l torn cut (k + 1))) := by rw [HE.out]; exact hR5
        have HK5 : Hid (Kp p.mem wc.drew (((wc.setCell ⟨p.q, i * 3, none⟩ (.string M)).setCell ⟨p.q, i * 3 + 1, none⟩ (.string M)).setCell ⟨p.q, i * 3 + 2, none⟩ (.bool false)).drew) := hK5
        clear hRd t0 t1 hXs hYs hR5 hK5
        go_upto_region 11 with fail
        have e1 : (wc.drew.setCell ⟨p.q, i * 3, none⟩ (.string M)).cell? ⟨p.q, i * 3 + 1, none⟩ = some (.string Y) := by rw [World.cell?_setCell_other (h := addr_ne (by omega))]; exact s2
        have e2 : ((wc.drew.setCell ⟨p.q, i * 3, none⟩ (.string M)).setCell ⟨p.q, i * 3 + 1, none⟩ (.string M)).cell? ⟨p.q, i * 3 + 2, none⟩ = some (.bool b) := by rw [World.cell?_setCell_other (h := addr_ne (by omega)), World.cell?_setCell_other (h := addr_ne (by omega))]; exact s3
        have e1' : (wc.setCell ⟨p.q, i * 3, none⟩ (.string M)).drew.cell? ⟨p.q, i * 3 + 1, none⟩ = some (.string Y) := e1
        have e2' : ((wc.setCell ⟨p.q, i * 3, none⟩ (.string M)).setCell ⟨p.q, i * 3 + 1, none⟩ (.string M)).drew.cell? ⟨p.q, i * 3 + 2, none⟩ = some (.bool b) := e2
        have e1'' : (wc.setCell ⟨p.q, i * 3, none⟩ (.string M)).cell? ⟨p.q, i * 3 + 1, none⟩ = some (.string Y) := e1
        have e2'' : ((wc.setCell ⟨p.q, i * 3, none⟩ (.string M)).setCell ⟨p.q, i * 3 + 1, none⟩ (.string M)).cell? ⟨p.q, i * 3 + 2, none⟩ = some (.bool b) := e2
        have j1 : (wc.drew.setCell ⟨p.q, i * 3, none⟩ (.string M)).frozen? ⟨p.q, i * 3 + 1, none⟩ = false := by rw [World.frozen?_setCell]; exact f1
        have j2 : ((wc.drew.setCell ⟨p.q, i * 3, none⟩ (.string M)).setCell ⟨p.q, i * 3 + 1, none⟩ (.string M)).frozen? ⟨p.q, i * 3 + 2, none⟩ = false := by rw [World.frozen?_setCell, World.frozen?_setCell]; exact f2
        have j1' : (wc.setCell ⟨p.q, i * 3, none⟩ (.string M)).drew.frozen? ⟨p.q, i * 3 + 1, none⟩ = false := j1
        have j2' : ((wc.setCell ⟨p.q, i * 3, none⟩ (.string M)).setCell ⟨p.q, i * 3 + 1, none⟩ (.string M)).drew.frozen? ⟨p.q, i * 3 + 2, none⟩ = false := j2
        go_region
        clear e1 e2 e1' e2' e1'' e2'' j1 j2 j1' j2' s0 s8 s1 s2 s3 f0 f1 f2
        go_wp2
        go_roundw
        case rel => exact ⟨k + 1, by omega, by go_num, HF.out, hK9.then HK5.out⟩
        case measure => simp [intOf]; omega
      case first =>
        by_cases ht : (k : Int) = torn
        · have ht' : ((k : Int) == torn) = true := by simpa using ht
          have hN : staysN k l torn cut = (min (max cut 0) 64).toNat := by unfold staysN; rw [if_pos ht]
          obtain ⟨N, HN⟩ : ∃ N : Nat, Hid (min (max cut 0) 64 = (N : Int)) := ⟨(min (max cut 0) 64).toNat, by show _ = _; omega⟩
          have hN64 : (N : Int) ≤ 64 := by have := HN.out; omega
          rw [← Hm.out, hN, HN.out, Int.toNat_natCast] at HM
          have hNY : (N : Int) ≤ (Y.size : Int) := by omega
          have hNX : (N : Int) ≤ (X.size : Int) := by omega
          clear ht
          go_upto_region 8 with fail
          rw [HN.out]
          go_quiet (fail)
          go_wp2
          go_meet
          case rel =>
            refine ⟨?_, Kp.drewN _ _ _⟩
            rw [← HM.out, ← HX.out, ← HY.out, mix_str x y N x64]
        · have ht' : ((k : Int) == torn) = false := by simpa using ht
          obtain ⟨ak, ck, rfl, h1, h2, h3⟩ := hK1
          unfold maxLen at h2
          rcases Nat.eq_zero_or_pos l.length with h0 | h0
          · have hl : l = [] := List.eq_nil_of_length_eq_zero h0
            subst hl
            have hN : staysN k [] torn cut = 0 := by unfold staysN; rw [if_neg ht]; simp
            rw [← Hm.out, hN, mixS_none, HX.out] at HM
            clear ht h3
            go_wp2
            go_meet
            case rel => exact ⟨by rw [HM.out], Kp.refl _ _⟩
          · have hm : k % l.length < l.length := Nat.mod_lt _ h0
            obtain ⟨bk, off, rfl, hbB, hc⟩ := h3 (k % l.length) hm
            have hbm : ¬ p.mem bk := fun h => by have := hB bk h; omega
            have hN : staysN k l torn cut = if l[k % l.length] then 64 else 0 := by
              unfold staysN
              rw [if_neg ht, List.getD_eq_getElem?_getD, List.getElem?_eq_getElem hm]
              rfl
            rw [← Hm.out, hN] at HM
            have hcc := r3.cell (HKr.out.cell hc hbm) (fun h => h)
            clear hN ht h3 hc
            have he : ((k : Int) % (l.length : Int)).toNat = k % l.length := by omega
            have hlt2 : (k : Int) % (l.length : Int) < (l.length : Int) := by omega
            have hge : 0 ≤ (k : Int) % (l.length : Int) := by omega
            have hl0 : (0 : Int) < (l.length : Int) := by omega
            generalize l[k % l.length] = bb at hcc HM
            cases bb
            · rw [if_neg (by simp), mixS_none, HX.out] at HM
              go_wp2
              go_meet
              case rel => exact ⟨by rw [HM.out], Kp.refl _ _⟩
            · rw [if_pos rfl, mixS_all x64 y64, HY.out] at HM
              go_wp2
              go_meet
              case rel => exact ⟨by rw [HM.out], Kp.refl _ _⟩
    · obtain rfl : k = (unsL D).length := by omega
      have hz := hRr.fr 2
      have c2 := hRr.c2
      have HF : Hid (Ref (wr.setCell ⟨p.r, 2, none⟩ (.int .i64 (-1))) p (Rv.of (D.crash l torn cut))) := ref_crashed (hRr.setH (-1))
      clear hRr
      go_wp2
      first | go_end0 | ((try simp only [Exit.inBlock, Exit.then]); refine bodyPost_ret (results_none rfl _ _ _) rfl ?_)
      exact ⟨rfl, HF.out, (HK1.out.nThen hKr).then (Kp.setCell _ _ _ _ (.inl rfl))⟩

set_option maxRecDepth 100000 in
set_option maxHeartbeats 400000 in
theorem rdoes_any (p : Rp) (D : Dv) (o : OpD) (B : Nat) (w : World) (hR : Ref w p (Rv.of D)) (hf : D.okF) (hc0 : 0 ≤ D.c) (hc1 : D.c ≤ 1000000) (ho : o.ok B w) (hB : ∀ k, p.mem k → B ≤ k) :
    Calls Try.prog 14 #[.pointer (some ⟨p.r, 0, none⟩), .agg o.cells] w fun e w' => e = .returned (.int .i64 (D.stepE o)) ∧ Ref w' p (Rv.of (D.step o)) ∧ Kp p.mem w w' := by
  have hka := Kp.alloc none' w (.cells o.cells 34)
  have hb := new_row w o.cells 34
  have hl : w.heap.size < (w.alloc (.cells o.cells 34)).heap.size := by simp
  have hgm : ∀ k, p.mem k → k ≠ w.heap.size := fun k hk => Nat.ne_of_lt (hR.lt k hk)
  obtain ⟨wa, Ha⟩ : ∃ wa, Hid (w.alloc (.cells o.cells 34) = wa) := ⟨_, rfl⟩
  rw [Ha.out] at hka hb hl
  obtain ⟨g, HG⟩ : ∃ g, Hid (w.heap.size = g) := ⟨_, rfl⟩
  rw [HG.out] at hb hl hgm
  have hld := run_loadVar_row (P := Try.prog) wa g 34 34 o.cells (0, 0) _ hb Try.underlying34 rfl (by kernel_rfl)
  go_enter Try.func14, Try.ntmps14
  go_upto_region 1 with fail
  rw [Ha.out, HG.out]
  have c0 : wa.cell? ⟨g, 0, none⟩ = some (.int .i64 o.k) := by rw [cell_of_row _ _ _ _ _ _ hb]; rfl
  have c1 : wa.cell? ⟨g, 1, none⟩ = some (.int .i64 o.i) := by rw [cell_of_row _ _ _ _ _ _ hb]; rfl
  have c2 : wa.cell? ⟨g, 2, none⟩ = some (.string o.s) := by rw [cell_of_row _ _ _ _ _ _ hb]; rfl
  have c3 : wa.cell? ⟨g, 3, none⟩ = some o.kv := by rw [cell_of_row _ _ _ _ _ _ hb]; rfl
  have c4 : wa.cell? ⟨g, 4, none⟩ = some (.int .i64 o.c) := by rw [cell_of_row _ _ _ _ _ _ hb]; rfl
  have ho' : o.ok B wa := ho.kept hka (fun _ _ h => h)
  have hRa := hR.keptN hka
  clear hld hb
  go_upto_region 3 with (go_at_call 26; refine (kind_any o _).mono ?_; rintro e wb ⟨rfl, hkb⟩)
  have hRb := hRa.keptN hkb
  have hob := ho'.kept hkb (fun _ _ h => h)
  have hos := hob.1
  have d1 := hkb.cell c1 (fun h => h)
  have d2 := hkb.cell c2 (fun h => h)
  have d3 := hkb.cell c3 (fun h => h)
  have d4 := hkb.cell c4 (fun h => h)
  have hkw : Kp p.mem w wb := (hka.then hkb).mono (fun _ _ h => h.elim)
  clear c0 c1 c2 c3 c4 hR hRa ho ho' hka hkb
  rcases o.kinds with h | h | h | h
  · have HE : Hid (D.stepE o = wrE D o.i o.s) := by show _ = _; simp [Dv.stepE, h]
    have HW : Hid (D.step o = D.write o.i o.s) := by show _ = _; simp [Dv.step, h]
    rw [h]
    clear h
    go_wp2_with (go_at_call 29; refine (rwrite_any p D o.i o.s _ hRb hf hc0 hc1 hos).mono ?_; rintro e wc ⟨rfl, hRc, hkc⟩)
    go_ret
    exact ⟨by rw [HE.out]; rfl, by rw [HW.out]; exact hRc, hkw.then hkc⟩
  · have HE : Hid (D.stepE o = syE D) := by show _ = _; simp [Dv.stepE, h]
    have HW : Hid (D.step o = D.sync) := by show _ = _; simp [Dv.step, h]
    rw [h]
    clear h
    go_wp2_with (go_at_call 30; refine (rsync_any p D _ hRb hf hc0 hc1).mono ?_; rintro e wc ⟨rfl, hRc, hkc⟩)
    go_ret
    exact ⟨by rw [HE.out]; rfl, by rw [HW.out]; exact hRc, hkw.then hkc⟩
  · have HE : Hid (D.stepE o = 0) := by show _ = _; simp [Dv.stepE, h]
    have HW : Hid (D.step o = D.stop o.i) := by show _ = _; simp [Dv.step, h]
    rw [h]
    clear h
    go_wp2_with (go_at_call 31; refine (rstop_any p D o.i _ hRb hc0 hc1).mono ?_; rintro e wc ⟨rfl, hRc, hkc⟩)
    go_ret
    exact ⟨by rw [HE.out]; rfl, by rw [HW.out]; exact hRc, hkw.then hkc⟩
  · have HE : Hid (D.stepE o = 0) := by show _ = _; simp [Dv.stepE, h]
    have HW : Hid (D.step o = D.crash o.l o.i o.c) := by show _ = _; simp [Dv.step, h]
    rw [h]
    clear h
    go_wp2_with (go_at_call 32; refine (rcrash_any p D o.kv o.l o.i o.c B _ hRb hob.2 hB).mono ?_; rintro e wc ⟨rfl, hRc, hkc⟩)
    go_ret
    exact ⟨by rw [HE.out]; rfl, by rw [HW.out]; exact hRc, hkw.then hkc⟩
/-- The call at which it stands still stays at nought or above. -/
theorem okF_step (D : Dv) (o : OpD) (h : D.okF) (hc : 0 ≤ D.c) : (D.step o).okF := by
  unfold Dv.step
  split
  · unfold Dv.write
    split
    · exact h
    · exact h
  · split
    · unfold Dv.sync
      split
      · exact h
      · exact h
    · split
      · unfold Dv.stop
        split
        · intro _
          show 0 ≤ D.c + o.i
          omega
        · intro h'
          cases h'
      · intro h'
        cases h'

end Go.Proofs.Ytlalnaaeljikgaa
