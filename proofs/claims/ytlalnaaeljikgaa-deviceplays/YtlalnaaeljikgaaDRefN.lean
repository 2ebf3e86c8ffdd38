/- Contracts, over the turned program: the document's New. Conditions: those that each theorem states. -/
import Derived.Test.YtlalnaaeljikgaaDRefW
import Derived.Deep.RegionLaw
namespace Go.Proofs.Ytlalnaaeljikgaa
open Go.RowKit
set_option linter.unusedVariables false

theorem step_append_row {P : Program} {w : World} {ops : Array Oper} {o : Oper} {a : Act} {K : Act → World → Prop} {Q : Exit → Act → World → Prop} {E : Prop} (hgd : o.guard = none) (s x : Operand) (t tx : TypeId)
    (ho : o.op = .call { callee := .builtin .append, args := #[s, x], argTypes := #[t, tx] }) (base : Nat) (e : TypeId) (i : TypeInfo) (z : Value) (sz by_ : Nat) (ht : P.underlying t = some (.slice e)) (hi : P.info? e = some i) (hz : i.zero = some z) (hzc : z.cells.size = sz)
    (hsize : i.size = sz) (hby : i.bytes = by_) (v : Value) (n : Nat) (cs : List Value) (hs : a.eval s = v) (hown : w.ownsRow base e sz v n cs) (xv : Value) (m : Nat) (ds : List Value) (hx : a.eval x = xv) (hsrc : Src P sz tx xv m ds w) (hm : 0 < n + m)
    (hb : (n + m) * by_ ≤ 140737488355328) (hml : n + m ≤ maxLen) (hbase : base ≤ w.heap.size)
    (h : ∀ v' w', w'.ownsRow base e sz v' (n + m) (cs ++ ds) → w.grownBy w' v.ownBlock → (v'.ownBlock = v.ownBlock ∨ v'.ownBlock = some w.heap.size) → K (a.put o.dst v') w') :
    if Region.wanted o (yielded ops a.tmps) = true then Oper.wp P o a w K Q else E := by
  have hw : Region.wanted o (yielded ops a.tmps) = true := by simp [Region.wanted, hgd]
  rw [if_pos hw]
  exact wp_append_row w s x t tx ho base e i z sz by_ ht hi hz hzc hsize hby v n cs hs hown xv m ds hx hsrc hm hb hml hbase h
theorem row_shape {w : World} {base sz n : Nat} {e : TypeId} {v : Value} {xs : List Value} (h : w.ownsRow base e sz v n xs) : ∃ a c, v = .slice a n c := by
  rcases h.2 with ⟨rfl, rfl⟩ | ⟨g, cap, cur, rfl, _⟩
  · exact ⟨none, 0, rfl⟩
  · exact ⟨_, cap, rfl⟩
theorem row_kept {w w' : World} {base sz n : Nat} {e : TypeId} {v : Value} {xs : List Value} {S : Nat → Prop} (h : w.ownsRow base e sz v n xs) (hk : Kp S w w') (hS : ∀ k, v.ownBlock = some k → ¬ S k) : w'.ownsRow base e sz v n xs := by
  rcases h.2 with ⟨rfl, h0⟩ | ⟨g, cap, cur, rfl, hb, hg, h1, h2, h3, h4⟩
  · exact ⟨h.1, .inl ⟨rfl, h0⟩⟩
  · have hlt : g < w.heap.size := (Array.getElem?_eq_some_iff.1 hg).1
    exact ⟨h.1, .inr ⟨g, cap, cur, rfl, hb, by rw [hk.block g hlt (hS g rfl)]; exact hg, h1, h2, h3, h4⟩⟩
theorem src_three {P : Program} (w : World) (t e : TypeId) (ht : P.underlying t = some (.slice e)) (x y z : Value) (hx : x.oneCell' = true) (hy : y.oneCell' = true) (hz : z.oneCell' = true) (g : Nat) (hg : w.heap.size = g) : Src P 3 t (.slice (some ⟨g, 0, none⟩) 1 1) 1 [x, y, z] (w.alloc (.cells #[x, y, z] e)) := by
  subst hg
  refine Src.ofSlice (e' := e) _ ht ⟨w.heap.size, 0, none⟩ 1 1 [x, y, z] (by simp) ?_ (by intro u hu; simp at hu; rcases hu with rfl | rfl | rfl <;> assumption)
  intro j u hj
  match j, hj with
  | 0, hj => simp at hj; subst hj; simp [Addr.add]
  | 1, hj => simp at hj; subst hj; simp [Addr.add]
  | 2, hj => simp at hj; subst hj; simp [Addr.add]
  | (j + 3), hj => simp at hj

theorem infoP : (Try.prog.info? 62).map (fun i => (i.zero, i.size, i.bytes)) = some (some (.agg #[.string ByteArray.empty, .string ByteArray.empty, .bool false]), 3, 40) := by kernel_rfl
/-- The cells of k new places. -/
def pcs (Z : ByteArray) : Nat → List Value
  | 0 => []
  | k + 1 => pcs Z k ++ [.string Z, .string Z, .bool false]
theorem pcs_len (Z : ByteArray) : ∀ k, (pcs Z k).length = k * 3
  | 0 => rfl
  | k + 1 => by rw [pcs, List.length_append, pcs_len Z k]; simp; omega
theorem pcs_at (Z : ByteArray) : ∀ k i, i < k → (pcs Z k)[i * 3]? = some (.string Z) ∧ (pcs Z k)[i * 3 + 1]? = some (.string Z) ∧ (pcs Z k)[i * 3 + 2]? = some (.bool false)
  | 0, i, h => by omega
  | k + 1, i, h => by
    have hl := pcs_len Z k
    rw [pcs]
    by_cases e : i = k
    · subst e
      refine ⟨?_, ?_, ?_⟩
      · rw [List.getElem?_append_right (by omega), hl, Nat.sub_self]; rfl
      · rw [List.getElem?_append_right (by omega), hl, show i * 3 + 1 - i * 3 = 1 by omega]; rfl
      · rw [List.getElem?_append_right (by omega), hl, show i * 3 + 2 - i * 3 = 2 by omega]; rfl
    · have ih := pcs_at Z k i (by omega)
      refine ⟨?_, ?_, ?_⟩
      · rw [List.getElem?_append_left (by omega)]; exact ih.1
      · rw [List.getElem?_append_left (by omega)]; exact ih.2.1
      · rw [List.getElem?_append_left (by omega)]; exact ih.2.2
/-- The struct while New goes on: its row of k places. -/
structure Rn (w : World) (r : Nat) (a : Option Addr) (cap : Nat) (k : Nat) (Z : ByteArray) : Prop where
  c0 : w.cell? ⟨r, 0, none⟩ = some (.slice a k cap)
  c1 : w.cell? ⟨r, 1, none⟩ = some (.int .i64 0)
  c2 : w.cell? ⟨r, 2, none⟩ = some (.int .i64 (-1))
  fr : ∀ j, w.frozen? ⟨r, j, none⟩ = false
  ow : w.ownsRow (r + 1) 62 3 (.slice a k cap) k (pcs Z k)
theorem Rn.ref {w : World} {r cap n : Nat} {a : Option Addr} (h : Rn w r a cap n ⟨noughts.toArray⟩) (hn : n ≤ 4096) : ∃ p : Rp, p.r = r ∧ Ref w p (Rv.of (fresh n)) ∧ ∀ k, p.mem k → r ≤ k := by
  have hl : r < w.heap.size := lt_of_cell h.c0
  rcases h.ow.2 with ⟨h1, h2⟩ | ⟨g, cap', cur, h1, hb, hg, _⟩
  · subst h2
    refine ⟨⟨r, r, a, cap⟩, rfl, ⟨h.c0, h.c1, h.c2, h.fr, fun h => absurd h (by show ¬ 0 < 0; omega), h.fr, fun i hi => absurd hi (Nat.not_lt_zero _), fun i hi => absurd hi (Nat.not_lt_zero _), fun i hi => absurd hi (Nat.not_lt_zero _), hl, hn, fun i _ => noughts_len, fun i _ => noughts_len⟩, ?_⟩
    rintro k (rfl | rfl)
    · exact Nat.le_refl _
    · exact Nat.le_refl _
  · have e1 : a = some ⟨g, 0, none⟩ := (Value.slice.inj h1).1
    have e2 : cap = cap' := (Value.slice.inj h1).2.2
    subst e1 e2
    have hc := World.ownsRow.cells h.ow (g := g) rfl
    have hc' : ∀ j u, (pcs ⟨noughts.toArray⟩ n)[j]? = some u → w.cell? ⟨g, j, none⟩ = some u := fun j u hj => by
      have h5 := hc j u hj
      have e : (⟨g, 0, none⟩ : Addr).add j = ⟨g, j, none⟩ := by unfold Addr.add; split <;> simp_all
      rw [e] at h5
      exact h5
    refine ⟨⟨r, g, some ⟨g, 0, none⟩, cap⟩, rfl, ⟨h.c0, h.c1, h.c2, h.fr, fun _ => ⟨rfl, by show r ≠ g; omega⟩, fun j => ?_, fun i hi => hc' _ _ (pcs_at _ n i hi).1, fun i hi => hc' _ _ (pcs_at _ n i hi).2.1, fun i hi => hc' _ _ (pcs_at _ n i hi).2.2, (Array.getElem?_eq_some_iff.1 hg).1, hn, fun i _ => noughts_len, fun i _ => noughts_len⟩, ?_⟩
    · unfold World.frozen?
      rw [show w.heap[(⟨g, j, none⟩ : Addr).block]? = _ from hg]
      simp
    · rintro k (rfl | rfl)
      · exact Nat.le_refl _
      · exact Nat.le_of_succ_le hb

set_option maxRecDepth 100000 in
set_option maxHeartbeats 1600000 in
theorem rnew_any (n : Nat) (w : World) (hn : n ≤ 4096) :
    Calls Try.prog 12 #[.int .i64 (n : Int)] w fun e w' => ∃ p : Rp, e = .returned (.pointer (some ⟨p.r, 0, none⟩)) ∧ Ref w' p (Rv.of (fresh n)) ∧ Kp none' w w' ∧ ∀ k, p.mem k → w.heap.size ≤ k := by
  have hka := Kp.alloc none' w (.cells #[.slice none 0 0, .int .i64 0, .int .i64 (-1)] 39)
  have hb := new_row w #[.slice none 0 0, .int .i64 0, .int .i64 (-1)] 39
  obtain ⟨wa, Ha⟩ : ∃ wa, Hid (w.alloc (.cells #[.slice none 0 0, .int .i64 0, .int .i64 (-1)] 39) = wa) := ⟨_, rfl⟩
  rw [Ha.out] at hka hb
  obtain ⟨r, HG⟩ : ∃ r, Hid (w.heap.size = r) := ⟨_, rfl⟩
  rw [HG.out] at hb ⊢
  obtain ⟨i0, hi, hz0, hz1, hz2⟩ := info_parts infoP
  have R0 : Rn wa r none 0 0 ⟨noughts.toArray⟩ := ⟨by rw [cell_of_row _ _ _ _ _ _ hb]; rfl, by rw [cell_of_row _ _ _ _ _ _ hb]; rfl, by rw [cell_of_row _ _ _ _ _ _ hb]; rfl, fun j => by unfold World.frozen?; rw [show wa.heap[(⟨r, j, none⟩ : Addr).block]? = _ from hb]; simp, World.ownsRow_nil wa (r + 1) _ 3⟩
  have hra : r < wa.heap.size := (Array.getElem?_eq_some_iff.1 hb).1
  clear hb
  have hn0 : (0 : Int) ≤ (n : Int) := by omega
  have hn4 : (n : Int) ≤ 4096 := by omega
  go_enter Try.func12, Try.ntmps12
  go_upto_region 3 with fail
  rw [Ha.out, HG.out]
  go_upto_region 4 with fail
  rw [Int.min_eq_left hn4]
  have HZ : Hid ((⟨(whole (⟨#[]⟩ : ByteArray).data.toList).toArray⟩ : ByteArray) = ⟨noughts.toArray⟩) := by show _ = _; kernel_rfl
  obtain ⟨Z, HZ2⟩ : ∃ Z : ByteArray, Hid ((⟨noughts.toArray⟩ : ByteArray) = Z) := ⟨_, rfl⟩
  rw [HZ2.out] at R0 HZ
  go_loopw [4] (fun t wr => ∃ (k : Nat) (a : Option Addr) (cap : Nat), k ≤ n ∧ t = .int .i64 k ∧ Rn wr r a cap k Z ∧ Kp none' w wr) (fun t _ => n - (intOf t).toNat)
  case atStart => exact ⟨0, none, 0, Nat.zero_le _, rfl, R0, hka⟩
  case round =>
    obtain ⟨k, a, cap, hk, rfl, hR, hKr⟩ := hrel
    clear R0 hka
    by_cases hlt : k < n
    · have hk' : (k : Int) < (n : Int) := by omega
      have c0 := hR.c0
      have k0 : ∀ W : World, Kp none' wr W → W.cell? ⟨r, 0, none⟩ = some (.slice a k cap) := fun W h => h.cell c0 (fun h => h)
      have dr : Kp none' wr wr.drew := Kp.drew _ _
      have c0d := k0 _ dr
      have HR : Hid (Rn wr r a cap k Z) := hR
      have HK : Hid (Kp none' w wr) := hKr
      have Hrow : Hid (∀ z, (Value.slice a k cap).ownBlock = some z → r + 1 ≤ z) := fun z hz => (World.ownsRow.lt hR.ow z hz).1
      have Hb : Hid ((k + 1) * 40 ≤ 140737488355328 ∧ k + 1 ≤ maxLen) := ⟨by omega, by unfold maxLen; omega⟩
      have Hsz : Hid (r + 1 ≤ wr.heap.size) := lt_of_cell c0
      clear hR hKr
      go_upto_region 6 with fail
      go_region_law (first
        | (go_simp; go_at_call 22; refine (whole_any ⟨#[]⟩ _ (by show 0 ≤ maxLen; omega)).mono ?_; rintro e w2 ⟨rfl, hk2⟩; rw [HZ.out]; have S2 : Kp none' wr w2 := Kp.then (by assumption) hk2; have c2 := k0 _ S2; have ca : ∀ o, (w2.alloc o).cell? ⟨r, 0, none⟩ = some (.slice a k cap) := fun o => k0 _ (S2.then (Kp.alloc none' w2 o)))
        | (refine step_append_row (by rfl) (.tmp 19) (.tmp 23) 37 37 (by rfl) (r + 1) 62 i0 _ 3 40 Try.underlying37 hi hz0 (by rfl) hz1 hz2 (.slice a k cap) _ _ (by rfl) (World.ownsRow.alloc (row_kept HR.out.ow S2 (fun _ _ h => h)) _) _ 1 [.string Z, .string Z, .bool false] (by rfl) (src_three _ 37 62 Try.underlying37 _ _ _ rfl rfl rfl _ (by rfl)) (by omega) Hb.out.1 Hb.out.2 (by have := S2.size; have := Hsz.out; simp; omega) ?_; intro v4 w4 ho4 hg4 hv4; obtain ⟨a4, m4, rfl⟩ := row_shape ho4; have hk4 : Kp (fun z => (Value.slice a k cap).ownBlock = some z) wr w4 := (S2.mono (fun _ _ h => h.elim)).then ((Kp.alloc _ w2 _).then (Kp.ofGrown hg4 (fun z hz _ => hz))); have c4 := hk4.cell c0 (fun h => by have := Hrow.out r h; omega); have f4 : w4.frozen? ⟨r, 0, none⟩ = false := by rw [hk4.frozen (Nat.lt_of_succ_le Hsz.out) (fun h => by have := Hrow.out r h; omega)]; exact HR.out.fr 0)
        | fail)
      all_goals
        have hkS : Kp (only r) w4 (w4.setCell ⟨r, 0, none⟩ (.slice a4 (k + 1) m4)) := Kp.setCell _ _ _ _ rfl
        have hR5 : Rn (w4.setCell ⟨r, 0, none⟩ (.slice a4 (k + 1) m4)) r a4 m4 (k + 1) Z := by
          have hnr : ¬ (Value.slice a k cap).ownBlock = some r := fun h => by have := Hrow.out r h; omega
          refine ⟨World.cell?_setCell_same _ _ _ c4, ?_, ?_, fun j => ?_, row_kept ho4 hkS (fun z hz h => ?_)⟩
          · rw [World.cell?_setCell_other (h := addr_ne (by omega))]; exact hk4.cell HR.out.c1 hnr
          · rw [World.cell?_setCell_other (h := addr_ne (by omega))]; exact hk4.cell HR.out.c2 hnr
          · rw [World.frozen?_setCell, hk4.frozen (Nat.lt_of_succ_le Hsz.out) hnr]; exact HR.out.fr j
          · have := (World.ownsRow.lt ho4 z hz).1
            unfold only at h
            omega
        have hK5 : Kp none' w (w4.setCell ⟨r, 0, none⟩ (.slice a4 (k + 1) m4)) := (HK.out.trans hk4 (fun _ _ h => h) (fun z hz h => absurd hz (by have := Hrow.out z h; have := HG.out; omega))).trans hkS (fun _ _ h => h) (fun z hz h => absurd hz (by have := HG.out; unfold only at h; omega))
        go_wp2
        go_roundw
        case rel => exact ⟨k + 1, _, _, by omega, by go_num, hR5, hK5⟩
        case measure => simp [intOf]; omega
    · obtain rfl : k = n := by omega
      rw [← HZ2.out] at hR
      obtain ⟨p, rfl, hP, hm⟩ := hR.ref hn
      clear hR
      go_wp2
      go_ret
      exact ⟨p, rfl, hP, hKr, hm⟩

end Go.Proofs.Ytlalnaaeljikgaa
