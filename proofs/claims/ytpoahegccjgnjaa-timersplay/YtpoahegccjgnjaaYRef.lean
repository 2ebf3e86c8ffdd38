/- The document's timers: what they are in memory, what is read of them. Conditions: those that each theorem states. -/
import Derived.Test.YtpoahegccjgnjaaYRow
import Derived.Deep.RegionLaw
namespace Go.Proofs.Ytpoahegccjgnjaa
open Go Go.RowKit
set_option linter.unusedVariables false
/-- A slice that lies in block b. -/
def hasB (v : Value) (b : Nat) : Prop := ∃ off n c, v = .slice (some ⟨b, off, none⟩) n c
theorem Rq.keptV {B : Nat} {S : Nat → Prop} {w w' : World} {v : Value} {l : List (Int × Int)} (h : Rq B w v l) (hk : Kp S w w') (hS : ∀ b, hasB v b → ¬ S b) : Rq B w' v l := by
  obtain ⟨a, c, rfl, h1, h2, h3⟩ := h
  refine ⟨a, c, rfl, h1, h2, fun i hi => ?_⟩
  obtain ⟨b, off, rfl, hb, c0, c1⟩ := h3 i hi
  have := hS b ⟨off, _, _, rfl⟩
  exact ⟨b, off, rfl, hb, hk.cell c0 this, hk.cell c1 this⟩
theorem Rq.keptN {B : Nat} {w w' : World} {v : Value} {l : List (Int × Int)} (h : Rq B w v l) (hk : Kp none' w w') : Rq B w' v l := h.keptV hk (fun _ _ h => h)
theorem Rq.up {B B' : Nat} {w : World} {v : Value} {l : List (Int × Int)} (h : Rq B w v l) (hB : B ≤ B') : Rq B' w v l := by
  obtain ⟨a, c, rfl, h1, h2, h3⟩ := h
  refine ⟨a, c, rfl, h1, h2, fun i hi => ?_⟩
  obtain ⟨b, off, rfl, hb, c0⟩ := h3 i hi
  exact ⟨b, off, rfl, by omega, c0⟩
/-- The document's timers at block q, with the pairs L, in no block of F. -/
structure Rf (w : World) (q : Nat) (F : Nat → Prop) (v : Value) (L : List (Int × Int)) : Prop where
  c : w.cell? ⟨q, 0, none⟩ = some v
  f : w.frozen? ⟨q, 0, none⟩ = false
  r : Rq w.heap.size w v L
  nq : ¬ F q
  nb : ∀ b, hasB v b → ¬ F b ∧ b ≠ q ∧ b < w.heap.size
theorem Rf.kept {w w' : World} {q : Nat} {F F' S : Nat → Prop} {v : Value} {L : List (Int × Int)} (h : Rf w q F v L) (hk : Kp S w w') (hS : ∀ k, ¬ F k → ¬ S k) (hF : ∀ k, k < w.heap.size → F' k → F k) : Rf w' q F' v L :=
  have hql := lt_of_cell h.c
  ⟨hk.cell h.c (hS q h.nq), by rw [hk.frozen hql (hS q h.nq)]; exact h.f, (h.r.keptV hk (fun b hb => hS b (h.nb b hb).1)).up hk.size, fun hf => h.nq (hF q hql hf), fun b hb => ⟨fun hf => (h.nb b hb).1 (hF b (h.nb b hb).2.2 hf), (h.nb b hb).2.1, Nat.lt_of_lt_of_le (h.nb b hb).2.2 hk.size⟩⟩
theorem Rf.keptN {w w' : World} {q : Nat} {F : Nat → Prop} {v : Value} {L : List (Int × Int)} (h : Rf w q F v L) (hk : Kp none' w w') : Rf w' q F v L := h.kept hk (fun _ _ h => h) (fun _ _ h => h)
theorem Rq.at {B : Nat} {w : World} {v : Value} {l : List (Int × Int)} (h : Rq B w v l) : ∃ a c, v = .slice a l.length c ∧ l.length ≤ c ∧ ∀ i (h : i < l.length), ∃ b off, a = some ⟨b, off, none⟩ ∧ w.cell? ⟨b, off + i * 2, none⟩ = some (.int .i64 l[i].2) ∧ w.cell? ⟨b, off + i * 2 + 1, none⟩ = some (.int .i64 l[i].1) := by
  obtain ⟨a, c, e, h1, h2, h3⟩ := h
  exact ⟨a, c, e, h1, fun i hi => by
    obtain ⟨b, off, e, _, c0, c1⟩ := h3 i hi
    exact ⟨b, off, e, c0, c1⟩⟩
theorem tillL_take {id : Int} : ∀ {L : List (Int × Int)} {i : Nat} (hi : i < L.length), (∀ j (hj : j < L.length), j < i → L[j].2 ≠ id) → L[i].2 = id → tillL id L = some L[i].1
  | [], _, hi, _, _ => by simp at hi
  | p :: L, 0, _, _, he => by
    unfold tillL
    rw [if_pos (show p.2 = id from he)]
    rfl
  | p :: L, i + 1, hi, hn, he => by
    unfold tillL
    rw [if_neg (show p.2 ≠ id from hn 0 (by simp) (by omega))]
    exact tillL_take (by simpa using hi) (fun j hj hji => hn (j + 1) (by simpa using hj) (by omega)) he
theorem tillL_no {id : Int} {L : List (Int × Int)} (hn : ∀ j (hj : j < L.length), L[j].2 ≠ id) : tillL id L = none := tillL_none (fun hm => by
  obtain ⟨q, hq, e⟩ := List.mem_map.1 hm
  obtain ⟨j, hj, rfl⟩ := List.getElem_of_mem hq
  exact hn j hj e)
set_option maxRecDepth 100000 in
set_option maxHeartbeats 1600000 in
theorem rtill_any (q : Nat) (F : Nat → Prop) (v : Value) (L : List (Int × Int)) (id : Int) (w : World) (h : Rf w q F v L) (hl : L.length ≤ 1000000) :
    Calls Try.prog 21 #[.pointer (some ⟨q, 0, none⟩), .int .i64 id] w fun e w' => e = .returned (.tuple #[.int .i64 ((tillL id L).getD 0), .bool (tillL id L).isSome]) ∧ Kp none' w w' := by
  obtain ⟨a, c, e0, _, ho⟩ := h.r.at
  have hc := h.c
  subst e0
  have HO := hide ho
  clear h ho
  go_enter Try.func21, Try.ntmps21
  go_wp2
  go_loopw [6] (fun t wr => ∃ i : Nat, i ≤ L.length ∧ t = .int .i64 i ∧ Hid (∀ j (hj : j < L.length), j < i → L[j].2 ≠ id) ∧ wr = w) (fun t _ => L.length - (intOf t).toNat)
  case atStart => exact ⟨0, Nat.zero_le _, rfl, hide (fun j _ h => absurd h (by omega)), rfl⟩
  case round =>
    obtain ⟨i, hi, rfl, hN, rfl⟩ := hrel
    by_cases hlt : i < L.length
    · have hii : (i : Int) < (L.length : Int) := by omega
      obtain ⟨b, off, rfl, c0, c1⟩ := HO.out i hlt
      have HT := hide (fun he => tillL_take hlt hN.out (id := id) he)
      obtain ⟨p, HP⟩ : ∃ p, Hid (L[i] = p) := ⟨_, hide rfl⟩
      rw [HP.out] at c0 c1 HT
      obtain ⟨pt, pi⟩ := p
      dsimp only at c0 c1 HT
      by_cases he : pi = id
      · have hbe : (pi == id) = true := by simpa using he
        have HE := hide he
        clear he
        go_wp2
        go_ret2
        rw [HT.out HE.out]
        exact ⟨rfl, Kp.refl _ _⟩
      · have hbe : (pi == id) = false := by simpa using he
        go_wp2
        go_roundw
        case rel => exact ⟨i + 1, by omega, by go_num, hide (fun j hj hji => by
          by_cases ej : j = i
          · subst ej
            rw [HP.out]
            exact he
          · exact hN.out j hj (by omega)), by first | rfl | trivial⟩
        case measure => simp [intOf]; omega
    · obtain rfl : i = L.length := by omega
      have HT := hide (tillL_no (fun j hj => hN.out j hj hj))
      go_wp2
      go_ret2
      rw [HT.out]
      exact ⟨rfl, Kp.refl _ _⟩

theorem Rf.turn {w w4 : World} {q : Nat} {F : Nat → Prop} {v v4 : Value} {L L4 : List (Int × Int)} {B : Nat} (h : Rf w q F v L) (hF : ∀ k, F k → k < B) (hB : w.heap.size ≤ B) (hk : Kp none' w w4) (hO : OwQ w4 B v4 L4) : Rf (w4.setCell ⟨q, 0, none⟩ v4) q F v4 L4 ∧ Kp (only q) w (w4.setCell ⟨q, 0, none⟩ v4) := by
  have hql := lt_of_cell h.c
  have k4 : Kp (only q) w4 (w4.setCell ⟨q, 0, none⟩ v4) := Kp.setCell _ _ _ _ rfl
  have hs : (w4.setCell ⟨q, 0, none⟩ v4).heap.size = w4.heap.size := by simp
  have hb : ∀ b, hasB v4 b → B ≤ b ∧ b < w4.heap.size := fun b hb => by
    obtain ⟨off, n, c, e⟩ := hb
    rcases hO.2 with ⟨h1, _⟩ | ⟨g, cap, cur, h1, h2⟩
    · rw [h1] at e; cases e
    · rw [h1] at e
      cases e
      exact hO.lt b (by rw [h1]; rfl)
  refine ⟨⟨World.cell?_setCell_same _ _ _ (hk.cell h.c (fun h => h)), by rw [World.frozen?_setCell, hk.frozen hql (fun h => h)]; exact h.f, ?_, h.nq, fun b hb' => ?_⟩, (hk.mono (fun _ _ h => h.elim)).then k4⟩
  · rw [hs]
    exact hO.rq.keptV k4 (fun b hb' e => by have := (hb b hb').1; have : b = q := e; omega)
  · have := hb b hb'
    exact ⟨fun hf => by have := hF b hf; omega, by omega, by rw [hs]; exact this.2⟩
theorem drop_at {id : Int} {L : List (Int × Int)} {i : Nat} (hi : i < L.length) (hn : ∀ j (hj : j < L.length), j < i → L[j].2 ≠ id) (he : L[i].2 = id) (hd : (L.map (·.2)).Nodup) : L.take i ++ L.drop (i + 1) = dropL id L := by
  have e : L.take i ++ L[i] :: L.drop (i + 1) = L := by rw [← List.drop_eq_getElem_cons hi, List.take_append_drop]
  have h1 : (L.take i).filter (fun p => p.2 != id) = L.take i := List.filter_eq_self.2 (fun q hq => by
    obtain ⟨j, hj, rfl⟩ := List.getElem_of_mem hq
    rw [List.length_take] at hj
    rw [List.getElem_take]
    simpa using hn j (by omega) (by omega))
  have h2 : (L.drop (i + 1)).filter (fun p => p.2 != id) = L.drop (i + 1) := List.filter_eq_self.2 (fun q hq => by
    obtain ⟨j, hj, rfl⟩ := List.getElem_of_mem hq
    rw [List.length_drop] at hj
    rw [List.getElem_drop]
    have hp := List.pairwise_iff_getElem.1 (List.nodup_iff_pairwise_ne.1 hd) i (i + 1 + j) (by simpa using hi) (by simp; omega) (by omega)
    rw [List.getElem_map, List.getElem_map, he] at hp
    simpa using fun e => hp e.symm)
  have h3 : dropL id (L.take i ++ L[i] :: L.drop (i + 1)) = L.take i ++ L.drop (i + 1) := by
    unfold dropL
    rw [List.filter_append, List.filter_cons_of_neg (by simp [he]), h1, h2]
  rw [e] at h3
  exact h3.symm
set_option maxRecDepth 100000 in
set_option maxHeartbeats 3200000 in
theorem rdrop_any (q : Nat) (F : Nat → Prop) (v : Value) (L : List (Int × Int)) (id : Int) (w : World) (h : Rf w q F v L) (hF : ∀ k, F k → k < w.heap.size) (hl : L.length ≤ 1000000) (hd : (L.map (·.2)).Nodup) :
    Calls Try.prog 14 #[.pointer (some ⟨q, 0, none⟩), .int .i64 id] w fun e w' => e = .returned (.bool (tillL id L).isSome) ∧ ∃ v', Rf w' q F v' (dropL id L) ∧ Kp (only q) w w' := by
  obtain ⟨a, c, e0, hlc, ho⟩ := h.r.at
  have hc := h.c
  have hf := h.f
  subst e0
  have HO := hide ho
  have Hq := hide h
  clear h ho
  go_enter Try.func14, Try.ntmps14
  go_wp2
  go_loopw [5] (fun t wr => ∃ i : Nat, i ≤ L.length ∧ t = .int .i64 i ∧ Hid (∀ j (hj : j < L.length), j < i → L[j].2 ≠ id) ∧ wr = w) (fun t _ => L.length - (intOf t).toNat)
  case atStart => exact ⟨0, Nat.zero_le _, rfl, hide (fun j _ h => absurd h (by omega)), rfl⟩
  case round =>
    obtain ⟨i, hi, rfl, hN, rfl⟩ := hrel
    by_cases hlt : i < L.length
    · have hii : (i : Int) < (L.length : Int) := by omega
      obtain ⟨b, off, rfl, c0, c1'⟩ := HO.out i hlt
      have HT := hide (fun he => tillL_take hlt hN.out (id := id) he)
      have HDD := hide (fun he => drop_at hlt hN.out he hd)
      obtain ⟨p, HP⟩ : ∃ p, Hid (L[i] = p) := ⟨_, hide rfl⟩
      rw [HP.out] at c0 HT HDD
      obtain ⟨pt, pi⟩ := p
      dsimp only at c0 HT HDD
      clear c1'
      by_cases he : pi = id
      · have hbe : (pi == id) = true := by simpa using he
        have HE := hide he
        have HD := hide (HDD.out he)
        clear he HDD
        have hR : Rq wr.heap.size wr.drew (.slice (some ⟨b, off, none⟩) L.length c) L := Hq.out.r.keptV (Kp.drew none' _) (fun _ _ h => h)
        have hK0 : Kp none' wr wr.drew := Kp.drew _ _
        have c1 : wr.drew.cell? ⟨q, 0, none⟩ = _ := hc
        obtain ⟨v2, w2, hq2, hO2, hg2, hv2⟩ := appQ wr.drew wr.drew.heap.size (.slice none 0 0) _ [] (L.take i) (OwQ.nil _ _) (hR.take i (by omega)).src (Nat.le_refl _) (by simp; omega)
        rw [List.nil_append] at hO2
        have hK2 : Kp none' wr.drew w2 := Kp.ofGrown hg2 (fun k hk _ => by cases hk)
        have c2 := hK2.cell c1 (fun h => h)
        have hic : (i : Int) ≤ (c : Int) := by omega
        obtain ⟨jj, HJ⟩ : ∃ jj, Hid (i + 1 = jj) := ⟨_, rfl⟩
        have hwj : IntKind.i64.wrap ((i : Int) + 1) = (jj : Int) := by have := HJ.out; rw [IntKind.wrap_i64]; omega
        have hjl : (jj : Int) ≤ (L.length : Int) := by have := HJ.out; omega
        have hjc : (jj : Int) ≤ (c : Int) := by omega
        have hij : (i : Int) ≤ (jj : Int) := by have := HJ.out; omega
        have hjn : jj ≤ L.length := by omega
        rw [HJ.out] at HD
        have hlc' : (L.length : Int) ≤ (c : Int) := by omega
        have hqF : ∀ k, F k → k < wr.drew.heap.size := hF
        by_cases hci : c = jj
        · subst hci
          obtain ⟨v4, w4, hq4, hO4, hg4, hv4⟩ := appQ w2 wr.drew.heap.size v2 _ (L.take i) (L.drop c) hO2 ((hR.keptN hK2).drop0 c hjn rfl).src hK2.size (by simp; omega)
          have hK4 : Kp none' wr.drew w4 := hK2.trans (Kp.ofGrown hg4 (S := fun k => v2.ownBlock = some k) (fun k hk _ => hk)) (fun _ _ h => h) (fun k hk he => absurd hk (by have := (hO2.lt k he).1; omega))
          have hqt := Hq.out.turn hqF (Nat.le_refl _) (hK0.then hK4) hO4
          have c4 := hK4.cell c1 (fun h => h)
          have f4 : w4.frozen? ⟨q, 0, none⟩ = false := by rw [hK4.frozen (lt_of_cell c1) (fun h => h)]; exact hf
          rw [HD.out] at hqt
          have HQT := hide hqt
          obtain ⟨a4, k4, e4, -⟩ := hO4.rq.at
          obtain ⟨n4, Hn4⟩ : ∃ m, Hid ((L.take i ++ L.drop c).length = m) := ⟨_, rfl⟩
          rw [Hn4.out] at e4
          subst e4
          clear hqt hO4 hO2 hg4 hv4 hg2 hv2 hR HD
          go_upto_region 5 with fail
          go_region_law (first
            | (refine nstepQ_app_at (by rfl) (.const (.slice none 0 0)) (.tmp 31) 28 28 (by rfl) _ _ (by rfl) (by rfl) hq2 ?_)
            | (refine nstepQ_app_at (by rfl) (.tmp 32) (.tmp 39) 28 28 (by rfl) _ _ (by rfl) (by rfl) hq4 ?_)
            | fail)
          all_goals (
            go_wp2
            go_ret
            rw [HT.out HE.out]
            exact ⟨rfl, _, HQT.out.1, HQT.out.2⟩)
        · obtain ⟨v4, w4, hq4, hO4, hg4, hv4⟩ := appQ w2 wr.drew.heap.size v2 _ (L.take i) (L.drop jj) hO2 ((hR.keptN hK2).dropM jj hjn).src hK2.size (by simp; omega)
          simp only [Option.map_some, addr_plainQ] at hq4
          have hK4 : Kp none' wr.drew w4 := hK2.trans (Kp.ofGrown hg4 (S := fun k => v2.ownBlock = some k) (fun k hk _ => hk)) (fun _ _ h => h) (fun k hk he => absurd hk (by have := (hO2.lt k he).1; omega))
          have hqt := Hq.out.turn hqF (Nat.le_refl _) (hK0.then hK4) hO4
          have c4 := hK4.cell c1 (fun h => h)
          have f4 : w4.frozen? ⟨q, 0, none⟩ = false := by rw [hK4.frozen (lt_of_cell c1) (fun h => h)]; exact hf
          rw [HD.out] at hqt
          have HQT := hide hqt
          obtain ⟨a4, k4, e4, -⟩ := hO4.rq.at
          obtain ⟨n4, Hn4⟩ : ∃ m, Hid ((L.take i ++ L.drop jj).length = m) := ⟨_, rfl⟩
          rw [Hn4.out] at e4
          subst e4
          clear hqt hO4 hO2 hg4 hv4 hg2 hv2 hR HD
          go_upto_region 5 with fail
          go_region_law (first
            | (refine nstepQ_app_at (by rfl) (.const (.slice none 0 0)) (.tmp 31) 28 28 (by rfl) _ _ (by rfl) (by rfl) hq2 ?_)
            | (refine nstepQ_app_at (by rfl) (.tmp 32) (.tmp 39) 28 28 (by rfl) _ _ (by rfl) (by rfl) hq4 ?_)
            | fail)
          all_goals (
            go_wp2
            go_ret
            rw [HT.out HE.out]
            exact ⟨rfl, _, HQT.out.1, HQT.out.2⟩)
      · have hbe : (pi == id) = false := by simpa using he
        go_wp2
        go_roundw
        case rel => exact ⟨i + 1, by omega, by go_num, hide (fun j hj hji => by
          by_cases ej : j = i
          · subst ej
            rw [HP.out]
            exact he
          · exact hN.out j hj (by omega)), by first | rfl | trivial⟩
        case measure => simp [intOf]; omega
    · obtain rfl : i = L.length := by omega
      have HT := hide (tillL_no (fun j hj => hN.out j hj hj))
      have HD := hide (dropL_none (id := id) (L := L) (fun hm => by
        obtain ⟨q, hq, e⟩ := List.mem_map.1 hm
        obtain ⟨j, hj, rfl⟩ := List.getElem_of_mem hq
        exact hN.out j hj hj e))
      go_wp2
      go_ret
      rw [HT.out, HD.out]
      exact ⟨rfl, _, Hq.out, Kp.refl _ _⟩

end Go.Proofs.Ytpoahegccjgnjaa
