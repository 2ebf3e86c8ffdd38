/- Contract, over the turned program: the document's With. Conditions: those that the theorem states. -/
import Derived.Test.YtgfijbbibafdfaaGreatPRef
namespace Go.Proofs.YtgfijbbibafdfaaGreat
open Go.RowKit
set_option linter.unusedVariables false

/-- The pages with changes made, as a list. -/
def withL (Q : List ByteArray) (l : List Chg) : List ByteArray := l.foldl (fun Q c => Q.set c.page.toNat c.data) Q
theorem withL_len (l : List Chg) : ∀ Q, (withL Q l).length = Q.length := by
  induction l with
  | nil => intro Q; rfl
  | cons c l ih => intro Q; show (withL _ l).length = _; rw [ih, List.length_set]
theorem withL_take (Q : List ByteArray) (l : List Chg) (k : Nat) (h : k < l.length) : withL Q (l.take (k + 1)) = (withL Q (l.take k)).set l[k].page.toNat l[k].data := by
  rw [List.take_succ_eq_append_getElem h]
  unfold withL
  rw [List.foldl_append]
  rfl
/-- Pages by number. -/
def pgF (Q : List ByteArray) : Nat → ByteArray := fun p => Q.getD p (fillB 0)
theorem pgF_at (Q : List ByteArray) (p : Nat) (h : p < Q.length) : pgF Q p = Q[p] := by
  unfold pgF
  rw [List.getD_eq_getElem?_getD, List.getElem?_eq_getElem h]
  rfl
theorem pgF_size {Q : List ByteArray} (h : ∀ x ∈ Q, x.size = 256) (p : Nat) : (pgF Q p).size = 256 := by
  by_cases hp : p < Q.length
  · rw [pgF_at Q p hp]
    exact h _ (List.getElem_mem hp)
  · unfold pgF
    rw [List.getD_eq_getElem?_getD, List.getElem?_eq_none (by omega)]
    exact fillB_size 0
theorem withL_pgF (l : List Chg) : ∀ Q : List ByteArray, (∀ c ∈ l, 0 ≤ c.page ∧ c.page < Q.length) → pgF (withL Q l) = withC (pgF Q) l := by
  induction l with
  | nil => intro Q _; rfl
  | cons c l ih =>
    intro Q h
    show pgF (withL (Q.set c.page.toNat c.data) l) = withC (fun p => if (p : Int) = c.page then c.data else pgF Q p) l
    rw [ih _ (fun d hd => by rw [List.length_set]; exact h d (List.mem_cons_of_mem _ hd))]
    congr 1
    funext p
    have hc := h c List.mem_cons_self
    unfold pgF
    rw [List.getD_eq_getElem?_getD, List.getD_eq_getElem?_getD, List.getElem?_set]
    by_cases e : c.page.toNat = p
    · rw [if_pos e, if_pos (by omega), if_pos (by omega)]
      rfl
    · rw [if_neg e, if_neg (by omega)]
theorem withL_sizes {Q : List ByteArray} {l : List Chg} (hQ : ∀ x ∈ Q, x.size = 256) (hl : ∀ c ∈ l, c.data.size = 256) : ∀ x ∈ withL Q l, x.size = 256 := by
  induction l generalizing Q with
  | nil => exact hQ
  | cons c l ih =>
    show ∀ x ∈ withL (Q.set c.page.toNat c.data) l, x.size = 256
    refine ih (fun x hx => ?_) (fun d hd => hl d (List.mem_cons_of_mem _ hd))
    rcases List.mem_or_eq_of_mem_set hx with h | h
    · exact hQ x h
    · rw [h]; exact hl c List.mem_cons_self
set_option maxRecDepth 100000 in
set_option maxHeartbeats 1600000 in
theorem with_any (r : Nat) (S S' : Nat → Prop) (Q : List ByteArray) (v : Value) (l : List Chg) (w : World) (hQ : Pgl S w r Q) (hS : Chs S' w v l) (hp : ∀ c ∈ l, 0 ≤ c.page ∧ c.page < Q.length) (hq0 : 0 < Q.length) (hq : Q.length ≤ 160) (hl : l.length ≤ 31) :
    Calls Tryz.prog 13 #[.pointer (some ⟨r, 0, none⟩), v] w fun e w' => ∃ r', e = .returned (.pointer (some ⟨r', 0, none⟩)) ∧ Pgl (fun k => w.heap.size ≤ k) w' r' (withL Q l) ∧ Kp none' w w' := by
  obtain ⟨lv, q0, hT⟩ := hQ.i
  obtain ⟨qa, qc, rfl, hqc1, hqc2, hqa⟩ := hT
  obtain ⟨qb, qo, rfl, _, hqb, _⟩ := hqa 0 hq0
  have hsrc : Src Tryz.prog 1 68 (.slice (some ⟨qb, qo, none⟩) Q.length qc) Q.length (Q.map Value.string) w := by
    refine Src.ofSlice (e' := 9) _ Tryz.underlying68 ⟨qb, qo, none⟩ Q.length qc (Q.map Value.string) (by simp) ?_ (by intro u hu; obtain ⟨x, _, rfl⟩ := List.mem_map.1 hu; rfl)
    intro j u hj
    have hj' : j < Q.length := by
      have := (List.getElem?_eq_some_iff.1 hj).1
      simpa using this
    obtain ⟨b', o', e', _, _, hc⟩ := hqa j hj'
    cases e'
    have e : (⟨qb, qo, none⟩ : Addr).add j = ⟨qb, qo + j, none⟩ := by unfold Addr.add; split <;> simp_all
    rw [e, hc]
    rw [List.getElem?_map, List.getElem?_eq_getElem hj'] at hj
    simpa using hj
  clear hqa
  obtain ⟨a, cc, rfl, hlc, hcm, ha'⟩ := hS
  have ha := hide ha'
  clear ha'
  obtain ⟨i0, hi, hz0, hz1, hz2⟩ := info_parts infoStr
  have Hb : Hid ((0 + Q.length) * 16 ≤ 140737488355328 ∧ 0 + Q.length ≤ maxLen) := ⟨by omega, by unfold maxLen; omega⟩
  obtain ⟨B, HB⟩ : ∃ B, Hid (w.heap.size = B) := ⟨_, rfl⟩
  rw [HB.out]
  have hBw : B ≤ w.heap.size := by have := HB.out; omega
  go_enter Tryz.func13, Tryz.ntmps13
  go_upto_region 2 with (at_builtin; refine wpList_append_row _ rfl (.const (.slice none 0 0)) (.tmp 10) 68 68 rfl B 9 i0 _ 1 16 Tryz.underlying68 hi hz0 rfl hz1 hz2 (.slice none 0 0) 0 [] rfl (World.ownsRow_nil w B 9 1) _ Q.length (Q.map Value.string) rfl hsrc (by omega) Hb.out.1 Hb.out.2 hBw ?_; intro v1 w1 ho1 hg1 hv1; obtain ⟨a1, m1, rfl⟩ := prow_shape ho1)
  rw [Nat.zero_add] at ho1
  rw [List.nil_append] at ho1
  have hk1 : Kp none' w w1 := Kp.ofGrown hg1 (fun k hk _ => by cases hk)
  have hO1 : Ow Value.string 9 w1 B (.slice a1 Q.length m1) Q := ho1
  obtain ⟨g1, rfl, hg1B⟩ : ∃ g1, a1 = some ⟨g1, 0, none⟩ ∧ B ≤ g1 := by
    rcases hO1.shape with ⟨h1, h2⟩ | ⟨g, cap, h1, h2, _⟩
    · rw [h2] at hq0; exact absurd hq0 (by simp)
    · cases h1; exact ⟨g, rfl, h2⟩
  have hka := Kp.alloc none' w1 (.cells #[.slice (some ⟨g1, 0, none⟩) Q.length m1] 70)
  have hcB : (w1.alloc (.cells #[.slice (some ⟨g1, 0, none⟩) Q.length m1] 70)).cell? ⟨w1.heap.size, 0, none⟩ = some (.slice (some ⟨g1, 0, none⟩) Q.length m1) := by rw [cell_of_row _ _ _ _ _ _ (heap_alloc_new w1 _)]; rfl
  obtain ⟨w2, H2⟩ : ∃ w2, Hid (w1.alloc (.cells #[.slice (some ⟨g1, 0, none⟩) Q.length m1] 70) = w2) := ⟨_, rfl⟩
  rw [H2.out] at hka hcB ⊢
  have hg1l : g1 < w1.heap.size := by
    rcases hO1.shape with ⟨h1, h2⟩ | ⟨g, cap, h1, h2, h3, _⟩
    · cases h1
    · cases h1; exact h3
  have hne : w1.heap.size ≠ g1 := by omega
  have hO2 := hO1.keptN hka
  have hkw := hk1.then hka
  have hrB : B ≤ w1.heap.size := by omega
  clear ho1 hO1 hg1 hsrc hv1
  generalize w1.heap.size = rr at *
  go_wp2
  go_loopw [6] (fun t wr => ∃ k : Nat, k ≤ l.length ∧ t = .int .i64 k ∧ Ow Value.string 9 wr B (.slice (some ⟨g1, 0, none⟩) Q.length m1) (withL Q (l.take k)) ∧ wr.cell? ⟨rr, 0, none⟩ = some (.slice (some ⟨g1, 0, none⟩) Q.length m1) ∧ Kp none' w wr) (fun t _ => l.length - (intOf t).toNat)
  case atStart => exact ⟨0, Nat.zero_le _, rfl, hO2, hcB, hkw⟩
  case round =>
    obtain ⟨k, hk, rfl, hO, hcr, hK⟩ := hrel
    clear hO2 hcB hkw
    by_cases hlt : k < l.length
    · have hki : (k : Int) < (l.length : Int) := by omega
      obtain ⟨b, o, rfl, _, hbl, hc0, hc1⟩ := ha.out k hlt
      have hpr := hp l[k] (List.getElem_mem hlt)
      obtain ⟨q, hq'⟩ : ∃ q : Nat, l[k].page = q := ⟨l[k].page.toNat, by omega⟩
      have hqn : (q : Int) < (Q.length : Int) := by omega
      have hqn' : q < (withL Q (l.take k)).length := by rw [withL_len]; omega
      have HTK := hide (withL_take Q l k hlt)
      rw [hq'] at hc0 HTK
      rw [Int.toNat_natCast] at HTK
      have d0 : wr.drew.cell? ⟨b, o + k * 2, none⟩ = some (.int .i64 (q : Int)) := hK.cell hc0 (fun h => h)
      have d1 : wr.drew.cell? ⟨b, o + k * 2 + 1, none⟩ = some (.string l[k].data) := hK.cell hc1 (fun h => h)
      have hbg : b ≠ g1 := by have := HB.out; omega
      clear hc0 hc1 hpr hq'
      generalize l[k].data = x at *
      have hcrd : wr.drew.cell? ⟨rr, 0, none⟩ = some (.slice (some ⟨g1, 0, none⟩) Q.length m1) := hcr
      have hOd := hO.keptN (Kp.drew none' wr)
      have hcl := hOd.cellAt q hqn'
      have q1 := hcl.1
      have q2 := hcl.2
      have hst := hOd.stored q x
      rw [← HTK.out] at hst
      have HST := hide hst
      have kS : ∀ W : World, W.cell? ⟨rr, 0, none⟩ = some (.slice (some ⟨g1, 0, none⟩) Q.length m1) ∧ W.cell? ⟨b, o + k * 2, none⟩ = some (.int .i64 (q : Int)) ∧ W.cell? ⟨b, o + k * 2 + 1, none⟩ = some (.string x) →
          (W.setCell ⟨g1, q, none⟩ (.string x)).cell? ⟨rr, 0, none⟩ = some (.slice (some ⟨g1, 0, none⟩) Q.length m1) ∧ (W.setCell ⟨g1, q, none⟩ (.string x)).cell? ⟨b, o + k * 2, none⟩ = some (.int .i64 (q : Int)) ∧ (W.setCell ⟨g1, q, none⟩ (.string x)).cell? ⟨b, o + k * 2 + 1, none⟩ = some (.string x) := fun W h =>
        ⟨(Kp.setCell (S := only g1) W g1 _ _ rfl).cell h.1 hne, (Kp.setCell (S := only g1) W g1 _ _ rfl).cell h.2.1 hbg, (Kp.setCell (S := only g1) W g1 _ _ rfl).cell h.2.2 hbg⟩
      have HC5 := hide (kS _ ⟨hcrd, d0, d1⟩).1
      clear hcl hst hO hOd
      go_upto_region 5 with fail
      go_region_held_law (fun W => W.cell? ⟨rr, 0, none⟩ = some (.slice (some ⟨g1, 0, none⟩) Q.length m1) ∧ W.cell? ⟨b, o + k * 2, none⟩ = some (.int .i64 (q : Int)) ∧ W.cell? ⟨b, o + k * 2 + 1, none⟩ = some (.string x)) (first | assumption | exact ⟨hcrd, d0, d1⟩ | exact kS _ (by assumption) | exact kS _ ⟨hcrd, d0, d1⟩) (fail)
      clear kS q1 q2 d0 d1
      go_wp2
      go_roundw
      case rel => exact ⟨k + 1, by omega, by go_num, HST.out.1, HC5.out, (hK.then (Kp.drew _ _)).trans (Kp.ofGrown HST.out.2 (S := only g1) (fun k he _ => by cases he; rfl)) (fun _ _ h => h) (fun j hj he => absurd hj (by have := HB.out; unfold only at he; omega))⟩
      case measure => simp [intOf]; omega
    · obtain rfl : k = l.length := by omega
      rw [List.take_length] at hO
      have hP : Pgl (fun j => B ≤ j) wr rr (withL Q l) := ⟨⟨_, hcr, hO.txs⟩, hrB⟩
      go_wp2
      go_ret
      exact ⟨rr, rfl, hP, hK⟩

end Go.Proofs.YtgfijbbibafdfaaGreat
