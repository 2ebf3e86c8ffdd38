/- Contracts, over the turned program: what the document's Right answers. Conditions: those that each theorem states. -/
import Derived.Test.YtponhibiomcidaaDoorNRefO
namespace Go.Proofs.YtponhibiomcidaaDoor
open Go Go.RowKit
set_option linter.unusedVariables false

theorem infoTx : (Tryd.prog.info? 9).map (fun i => (i.zero, i.size, i.bytes)) = some (some (.string ⟨#[]⟩), 1, 16) := by kernel_rfl
theorem allD_iff (l : List Int) : l.all okD = true ↔ ∀ i (h : i < l.length), 1 ≤ l[i] ∧ l[i] ≤ 65535 := by
  rw [List.all_eq_true]
  constructor
  · intro h i hi; simpa [okD] using h _ (List.getElem_mem hi)
  · intro h x hx
    obtain ⟨i, hi, rfl⟩ := List.getElem_of_mem hx
    simpa [okD] using h i hi
theorem allV_iff (l : List Pr) : l.all (fun p => decide (p.v.size ≤ 40)) = true ↔ ∀ i (h : i < l.length), l[i].v.size ≤ 40 := by
  rw [List.all_eq_true]
  constructor
  · intro h i hi; simpa using h _ (List.getElem_mem hi)
  · intro h x hx
    obtain ⟨i, hi, rfl⟩ := List.getElem_of_mem hx
    simpa using h i hi
theorem Ow.mem {α : Type} {f : α → Value} {e : TypeId} {w : World} {base base' : Nat} {v : Value} {l : List α} (h : Ow f e w base v l) (hb : base' ≤ base) : Ow f e w base' v l := by
  rcases h.2 with ⟨rfl, h0⟩ | ⟨g, cap, cur, rfl, hb', hg, h1, h2, h3, h4⟩
  · exact ⟨h.1, .inl ⟨rfl, h0⟩⟩
  · exact ⟨h.1, .inr ⟨g, cap, cur, rfl, Nat.le_trans hb hb', hg, h1, h2, h3, h4⟩⟩

set_option maxRecDepth 100000 in
set_option maxHeartbeats 1000000 in
theorem rright_inner (x : Value) (n : Nd) (B : Nat) (w : World) (hN : Nv B w x n) (hl : n.leaf = false) :
    Calls Tryd.prog 48 #[x] w fun e w' => e = .returned (.bool n.right) ∧ Kp none' w w' := by
  obtain ⟨⟨pv, kv, dv, rfl, hP, hS, hD⟩, hwf⟩ := hN
  have hb := Nb.new w n.leaf pv kv dv
  have hwk := hwf.k
  obtain ⟨lf, ps, ks, kd⟩ := n
  dsimp only at *
  subst hl
  have hK0 : Kp none' w (w.alloc (.cells #[.bool false, pv, kv, dv] 27)) := Kp.alloc _ _ _
  obtain ⟨a, c, rfl, hlc, hcm, ha⟩ := hD
  obtain ⟨a1, c1, rfl, hlc1, hcm1, _⟩ := hP
  have hS' := hS
  obtain ⟨a2, c2, rfl, hlc2, hcm2, _⟩ := hS'
  unfold maxLen at hcm hcm1 hcm2
  have HR : Hid ((⟨false, ps, ks, kd⟩ : Nd).right = (kd.all okD && (ps.isEmpty && decide (kd.length = ks.length + 1) && ordN ks))) := by show _ = _; simp [Nd.right]
  rw [HR.out]
  clear HR
  have HA : Hid (∀ i (h : i < kd.length), ∃ b off, a = some ⟨b, off, none⟩ ∧ b < B ∧ w.cell? ⟨b, off + i, none⟩ = some (.int .i64 kd[i])) := ha
  clear ha
  have hb0 := hb.c0
  go_enter Tryd.func48, Tryd.ntmps48
  go_wp2
  generalize w.alloc (.cells #[.bool false, .slice a1 ps.length c1, .slice a2 ks.length c2, .slice a kd.length c] 27) = w0 at *
  go_loopw [3] (fun t wr => ∃ j : Nat, j ≤ kd.length ∧ t = .int .i64 j ∧ Hid (∀ i (h : i < kd.length), i < j → 1 ≤ kd[i] ∧ kd[i] ≤ 65535) ∧ Kp none' w0 wr) (fun t _ => kd.length - (intOf t).toNat)
  case atStart => exact ⟨0, Nat.zero_le _, rfl, fun i h h' => absurd h' (by omega), Kp.refl _ _⟩
  case round =>
    obtain ⟨j, hj, rfl, HO, hK⟩ := hrel
    have hbr := hb.kept hK (fun h => h)
    have hc3 := hbr.c3
    by_cases hlt : j < kd.length
    · obtain ⟨b, o, rfl, _, hc'⟩ := HA.out j hlt
      have hc := (hK0.thenN hK).cell hc' (fun h => h)
      clear hc'
      have hlt' : (j : Int) < (kd.length : Int) := by omega
      by_cases hz : 1 ≤ kd[j] ∧ kd[j] ≤ 65535
      · have HN : Hid (∀ i (h : i < kd.length), i < j + 1 → 1 ≤ kd[i] ∧ kd[i] ≤ 65535) := by
          intro i h hij
          rcases Nat.lt_succ_iff_lt_or_eq.1 hij with h' | h'
          · exact HO.out i h h'
          · subst h'; exact hz
        have hz1 : ¬ kd[j] < 1 := by omega
        have hz2 : ¬ 65535 < kd[j] := by omega
        clear hz HO
        generalize kd[j] = y at *
        go_wp2
        go_roundw
        case rel => exact ⟨j + 1, by omega, by go_num, HN, hK⟩
        case measure => simp [intOf]; omega
      · have HF : Hid (kd.all okD = false) := by
          cases e : kd.all okD with
          | false => rfl
          | true => exact absurd ((allD_iff kd).1 e j hlt) hz
        by_cases hz1 : kd[j] < 1
        · clear hz HO
          generalize kd[j] = y at *
          go_wp2
          go_ret
          rw [HF.out]
          exact ⟨rfl, hK0.thenN hK⟩
        · have hz2 : 65535 < kd[j] := by omega
          clear hz HO
          generalize kd[j] = y at *
          go_wp2
          go_ret
          rw [HF.out]
          exact ⟨rfl, hK0.thenN hK⟩
    · have hlt' : ¬ (j : Int) < (kd.length : Int) := by omega
      have HF : Hid (kd.all okD = true) := (allD_iff kd).2 (fun i h => HO.out i h (by omega))
      clear HO
      have hc1 := hbr.c1
      have hc2 := hbr.c2
      have hS3 := (hS.keptN hK0).keptN hK
      by_cases hp : ps.length = 0
      · have HP : Hid (ps.isEmpty = true) := by rw [List.length_eq_zero_iff] at hp; rw [hp]; rfl
        have hp' : ((ps.length : Int) == 0) = true := by simp [hp]
        by_cases hq : kd.length = ks.length + 1
        · have hq' : ((kd.length : Int) == wrap64 ((ks.length : Int) + 1)) = true := by rw [beq_iff_eq]; unfold wrap64; omega
          have HQ : Hid (decide (kd.length = ks.length + 1) = true) := by show _ = _; simp [hq]
          clear hp hq
          go_wp2_with (go_at_call 70; refine (rordered_any _ ks B _ hS3 hwk).mono ?_; rintro e w' ⟨rfl, hK'⟩)
          go_ret
          rw [HF.out, HP.out, HQ.out]
          exact ⟨by simp, hK0.thenN (hK.thenN hK')⟩
        · have hq' : ((kd.length : Int) == wrap64 ((ks.length : Int) + 1)) = false := by rw [beq_eq_false_iff_ne]; unfold wrap64; omega
          have HQ : Hid (decide (kd.length = ks.length + 1) = false) := by show _ = _; simp [hq]
          clear hp hq
          go_wp2
          go_ret
          rw [HF.out, HP.out, HQ.out]
          exact ⟨by simp, hK0.thenN hK⟩
      · have HP : Hid (ps.isEmpty = false) := by cases ps with | nil => simp at hp | cons _ _ => rfl
        have hp' : ((ps.length : Int) == 0) = false := by simp; intro h; rw [h] at hp; simp at hp
        clear hp
        go_wp2
        go_ret
        rw [HF.out, HP.out]
        exact ⟨by simp, hK0.thenN hK⟩

set_option maxRecDepth 100000 in
set_option maxHeartbeats 1000000 in
theorem rright_leaf (x : Value) (n : Nd) (B : Nat) (w : World) (hN : Nv B w x n) (hl : n.leaf = true) (hB : B ≤ w.heap.size) (hsz : n.ps.length ≤ 1099511627776) :
    Calls Tryd.prog 48 #[x] w fun e w' => e = .returned (.bool n.right) ∧ Kp none' w w' := by
  obtain ⟨⟨pv, kv, dv, rfl, hP, hS, hD⟩, hwf⟩ := hN
  have hb := Nb.new w n.leaf pv kv dv
  have hwp := hwf.p
  obtain ⟨lf, ps, ks, kd⟩ := n
  dsimp only at *
  subst hl
  have hK0 : Kp none' w (w.alloc (.cells #[.bool true, pv, kv, dv] 27)) := Kp.alloc _ _ _
  obtain ⟨a1, c1, rfl, hlc1, hcm1, ha⟩ := hP
  obtain ⟨a, c, rfl, hlc, hcm, _⟩ := hD
  obtain ⟨a2, c2, rfl, hlc2, hcm2, _⟩ := hS
  unfold maxLen at hcm hcm1 hcm2
  have HR : Hid ((⟨true, ps, ks, kd⟩ : Nd).right = (ps.all (fun p => decide (p.v.size ≤ 40)) && (ks.isEmpty && kd.isEmpty && ordN (ps.map Pr.k)))) := by show _ = _; simp [Nd.right]
  rw [HR.out]
  clear HR
  have HA : Hid (∀ i (h : i < ps.length), ∃ b off, a1 = some ⟨b, off, none⟩ ∧ b < B ∧ w.cell? ⟨b, off + i * 2, none⟩ = some (.string ps[i].k) ∧ w.cell? ⟨b, off + i * 2 + 1, none⟩ = some (.string ps[i].v)) := ha
  clear ha
  have hb0 := hb.c0
  obtain ⟨i0, hi, hz0, hz1, hz2⟩ := info_parts infoTx
  have HB0 : Hid ((w.alloc (.cells #[.bool true, .slice a1 ps.length c1, .slice a2 ks.length c2, .slice a kd.length c] 27)).heap.size = w.heap.size + 1) := by show _ = _; simp
  go_enter Tryd.func48, Tryd.ntmps48
  go_wp2
  generalize w.alloc (.cells #[.bool true, .slice a1 ps.length c1, .slice a2 ks.length c2, .slice a kd.length c] 27) = w0 at *
  obtain ⟨C, HC⟩ : ∃ C, Hid (w0.heap.size = C) := ⟨_, rfl⟩
  go_loopw [4, 5] (fun v t wr => ∃ j : Nat, j ≤ ps.length ∧ t = .int .i64 j ∧ Hid (∀ i (h : i < ps.length), i < j → ps[i].v.size ≤ 40) ∧ Ow Value.string 9 wr C v ((ps.take j).map Pr.k) ∧ Kp none' w0 wr) (fun _ t _ => ps.length - (intOf t).toNat)
  case atStart => exact ⟨0, Nat.zero_le _, rfl, fun i h h' => absurd h' (by omega), Ow.nil _ _ _ _, Kp.refl _ _⟩
  case round =>
    obtain ⟨j, hj, rfl, HO, hO, hK⟩ := hrel
    have hbr := hb.kept hK (fun h => h)
    have hc1 := hbr.c1
    by_cases hlt : j < ps.length
    · obtain ⟨b, o, rfl, _, hc', hd'⟩ := HA.out j hlt
      have hc := (hK0.thenN hK).cell hc' (fun h => h)
      have hd := (hK0.thenN hK).cell hd' (fun h => h)
      clear hc' hd'
      have hlt' : (j : Int) < (ps.length : Int) := by omega
      by_cases hz : ps[j].v.size ≤ 40
      · have HN : Hid (∀ i (h : i < ps.length), i < j + 1 → ps[i].v.size ≤ 40) := by
          intro i h hij
          rcases Nat.lt_succ_iff_lt_or_eq.1 hij with h' | h'
          · exact HO.out i h h'
          · subst h'; exact hz
        have HT : Hid ((ps.take (j + 1)).map Pr.k = (ps.take j).map Pr.k ++ [ps[j].k]) := by
          show _ = _
          rw [List.take_succ_eq_append_getElem hlt, List.map_append]
          rfl
        have hy1 : ¬ 40 < (ps[j].v.size : Int) := by omega
        have HL : Hid (((ps.take j).map Pr.k).length = j) := by show _ = _; simp; omega
        clear hz HO
        generalize ps[j] = y at *
        have Hb : Hid ((((ps.take j).map Pr.k).length + 1) * 16 ≤ 140737488355328 ∧ ((ps.take j).map Pr.k).length + 1 ≤ maxLen ∧ C ≤ (wr.alloc (.cells #[.string y.k] 9)).heap.size) := by
          have := hK.size
          have := HC.out
          rw [HL.out]
          exact ⟨by omega, by unfold maxLen; omega, by simp; omega⟩
        have hO4 := World.ownsRow.alloc hO (.cells #[.string y.k] 9)
        go_wp2_with (at_builtin; refine wpList_append_row _ rfl (.tmp 64) (.tmp 71) 24 24 rfl C 9 i0 _ 1 16 Tryd.underlying24 hi hz0 rfl hz1 hz2 u4 _ _ rfl hO4 _ 1 [.string y.k] rfl (src_cell _ 24 9 Tryd.underlying24 _ rfl _ rfl) (by omega) Hb.out.1 Hb.out.2.1 Hb.out.2.2 ?_; intro v4 w4 hO5 hg4 hv4)
        have hk4 : Kp (fun k => u4.ownBlock = some k) wr w4 := ((Kp.alloc _ wr _)).then (Kp.ofGrown hg4 (fun k hk _ => hk))
        go_roundw
        case rel =>
          refine ⟨j + 1, by omega, by go_num, HN, ?_, hK.trans hk4 (fun _ _ h => h) (fun i hi h => absurd hi (by have := (hO.lt i h).1; have := HC.out; omega))⟩
          rw [HT.out]
          unfold Ow
          rw [List.map_append, List.length_append]
          exact hO5
        case measure => simp [intOf]; omega
      · have HF : Hid (ps.all (fun p => decide (p.v.size ≤ 40)) = false) := by
          cases e : ps.all (fun p => decide (p.v.size ≤ 40)) with
          | false => rfl
          | true => exact absurd ((allV_iff ps).1 e j hlt) hz
        have hy1 : 40 < (ps[j].v.size : Int) := by omega
        clear hz HO
        generalize ps[j] = y at *
        go_wp2
        go_ret
        rw [HF.out]
        exact ⟨rfl, hK0.thenN hK⟩
    · have hlt' : ¬ (j : Int) < (ps.length : Int) := by omega
      have hje : j = ps.length := by omega
      have HF : Hid (ps.all (fun p => decide (p.v.size ≤ 40)) = true) := (allV_iff ps).2 (fun i h => HO.out i h (by omega))
      clear HO
      rw [hje, List.take_length] at hO
      clear hje
      have hc2 := hbr.c2
      have hc3 := hbr.c3
      have hS3 := hO.sl
      have hw : ∀ k ∈ ps.map Pr.k, k.size ≤ maxLen := by
        intro k hk
        obtain ⟨p, hp, rfl⟩ := List.mem_map.1 hk
        exact (hwp p hp).1
      by_cases hp : ks.length = 0
      · have HP : Hid (ks.isEmpty = true) := by rw [List.length_eq_zero_iff] at hp; rw [hp]; rfl
        have hp' : ((ks.length : Int) == 0) = true := by simp [hp]
        by_cases hq : kd.length = 0
        · have HQ : Hid (kd.isEmpty = true) := by rw [List.length_eq_zero_iff] at hq; rw [hq]; rfl
          have hq' : ((kd.length : Int) == 0) = true := by simp [hq]
          clear hp hq
          go_wp2_with (go_at_call 70; refine (rordered_any _ (ps.map Pr.k) _ _ hS3 hw).mono ?_; rintro e w' ⟨rfl, hK'⟩)
          go_ret
          rw [HF.out, HP.out, HQ.out]
          exact ⟨by simp, hK0.thenN (hK.thenN hK')⟩
        · have HQ : Hid (kd.isEmpty = false) := by cases kd with | nil => simp at hq | cons _ _ => rfl
          have hq' : ((kd.length : Int) == 0) = false := by simp; intro h; rw [h] at hq; simp at hq
          clear hp hq
          go_wp2
          go_ret
          rw [HF.out, HP.out, HQ.out]
          exact ⟨by simp, hK0.thenN hK⟩
      · have HP : Hid (ks.isEmpty = false) := by cases ks with | nil => simp at hp | cons _ _ => rfl
        have hp' : ((ks.length : Int) == 0) = false := by simp; intro h; rw [h] at hp; simp at hp
        clear hp
        go_wp2
        go_ret
        rw [HF.out, HP.out]
        exact ⟨by simp, hK0.thenN hK⟩
theorem rright_any (x : Value) (n : Nd) (B : Nat) (w : World) (hN : Nv B w x n) (hB : B ≤ w.heap.size) (hsz : n.ps.length ≤ 1099511627776) :
    Calls Tryd.prog 48 #[x] w fun e w' => e = .returned (.bool n.right) ∧ Kp none' w w' := by
  cases h : n.leaf with
  | true => exact rright_leaf x n B w hN h hB hsz
  | false => exact rright_inner x n B w hN h

end Go.Proofs.YtponhibiomcidaaDoor
