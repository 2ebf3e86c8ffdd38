/- Contracts, over the turned program: the document's New, Right, With. Conditions: those that each theorem states. -/
import Derived.Test.YtgfijbbibafdfaaGreatPLaw
import Derived.Test.YtgfijbbibafdfaaGreatPImages
namespace Go.Proofs.YtgfijbbibafdfaaGreat
open Go.RowKit
set_option linter.unusedVariables false

theorem pstep_append {P : Program} {w : World} {ops : Array Oper} {o : Oper} {a : Act} {K : Act → World → Prop} {Q : Exit → Act → World → Prop} {E : Prop} (hgd : o.guard = none) (s x : Operand) (t tx : TypeId)
    (ho : o.op = .call { callee := .builtin .append, args := #[s, x], argTypes := #[t, tx] }) (base : Nat) (e : TypeId) (i : TypeInfo) (z : Value) (sz by_ : Nat) (ht : P.underlying t = some (.slice e)) (hi : P.info? e = some i) (hz : i.zero = some z) (hzc : z.cells.size = sz)
    (hsize : i.size = sz) (hby : i.bytes = by_) (v : Value) (n : Nat) (cs : List Value) (hs : a.eval s = v) (hown : w.ownsRow base e sz v n cs) (xv : Value) (m : Nat) (ds : List Value) (hx : a.eval x = xv) (hsrc : Src P sz tx xv m ds w) (hm : 0 < n + m)
    (hb : (n + m) * by_ ≤ 140737488355328) (hml : n + m ≤ maxLen) (hbase : base ≤ w.heap.size)
    (h : ∀ v' w', w'.ownsRow base e sz v' (n + m) (cs ++ ds) → w.grownBy w' v.ownBlock → (v'.ownBlock = v.ownBlock ∨ v'.ownBlock = some w.heap.size) → K (a.put o.dst v') w') :
    if Region.wanted o (yielded ops a.tmps) = true then Oper.wp P o a w K Q else E := by
  have hw : Region.wanted o (yielded ops a.tmps) = true := by simp [Region.wanted, hgd]
  rw [if_pos hw]
  exact wp_append_row w s x t tx ho base e i z sz by_ ht hi hz hzc hsize hby v n cs hs hown xv m ds hx hsrc hm hb hml hbase h
theorem pstep_append_at {P : Program} {w : World} {ops : Array Oper} {o : Oper} {a : Act} {K : Act → World → Prop} {Q : Exit → Act → World → Prop} {E : Prop} {d : Nat} (hgd : o.guard = none) (hdst : o.dst = some d) (s x : Operand) (t tx : TypeId)
    (ho : o.op = .call { callee := .builtin .append, args := #[s, x], argTypes := #[t, tx] }) (base : Nat) (e : TypeId) (i : TypeInfo) (z : Value) (sz by_ : Nat) (ht : P.underlying t = some (.slice e)) (hi : P.info? e = some i) (hz : i.zero = some z) (hzc : z.cells.size = sz)
    (hsize : i.size = sz) (hby : i.bytes = by_) (v : Value) (n : Nat) (cs : List Value) (hs : a.eval s = v) (hown : w.ownsRow base e sz v n cs) (xv : Value) (m : Nat) (ds : List Value) (hx : a.eval x = xv) (hsrc : Src P sz tx xv m ds w) (hm : 0 < n + m)
    (hb : (n + m) * by_ ≤ 140737488355328) (hml : n + m ≤ maxLen) (hbase : base ≤ w.heap.size)
    (h : ∀ v' w', w'.ownsRow base e sz v' (n + m) (cs ++ ds) → w.grownBy w' v.ownBlock → (v'.ownBlock = v.ownBlock ∨ v'.ownBlock = some w.heap.size) → K (a.put (some d) v') w') :
    if Region.wanted o (yielded ops a.tmps) = true then Oper.wp P o a w K Q else E := by
  exact pstep_append hgd s x t tx ho base e i z sz by_ ht hi hz hzc hsize hby v n cs hs hown xv m ds hx hsrc hm hb hml hbase (fun v' w' h1 h2 h3 => by rw [hdst]; exact h v' w' h1 h2 h3)
theorem prow_shape {w : World} {base sz n : Nat} {e : TypeId} {v : Value} {xs : List Value} (h : w.ownsRow base e sz v n xs) : ∃ a c, v = .slice a n c := by
  rcases h.2 with ⟨rfl, rfl⟩ | ⟨g, cap, cur, rfl, _⟩
  · exact ⟨none, 0, rfl⟩
  · exact ⟨_, cap, rfl⟩
theorem prow_kept {w w' : World} {base sz n : Nat} {e : TypeId} {v : Value} {xs : List Value} {S : Nat → Prop} (h : w.ownsRow base e sz v n xs) (hk : Kp S w w') (hS : ∀ k, v.ownBlock = some k → ¬ S k) : w'.ownsRow base e sz v n xs := by
  rcases h.2 with ⟨rfl, h0⟩ | ⟨g, cap, cur, rfl, hb, hg, h1, h2, h3, h4⟩
  · exact ⟨h.1, .inl ⟨rfl, h0⟩⟩
  · have hlt : g < w.heap.size := (Array.getElem?_eq_some_iff.1 hg).1
    exact ⟨h.1, .inr ⟨g, cap, cur, rfl, hb, by rw [hk.block g hlt (hS g rfl)]; exact hg, h1, h2, h3, h4⟩⟩
/-- The struct while New goes on. -/
structure Pn (w : World) (r : Nat) (a : Option Addr) (cap : Nat) (k : Nat) (Z : ByteArray) : Prop where
  c0 : w.cell? ⟨r, 0, none⟩ = some (.slice a k cap)
  fr : w.frozen? ⟨r, 0, none⟩ = false
  ow : w.ownsRow (r + 1) 9 1 (.slice a k cap) k (List.replicate k (.string Z))
set_option maxRecDepth 100000 in
set_option maxHeartbeats 1600000 in
theorem prnew_any (n : Nat) (w : World) (hn : n ≤ 4096) :
    Calls Tryz.prog 10 #[.int .i64 (n : Int)] w fun e w' => ∃ r, e = .returned (.pointer (some ⟨r, 0, none⟩)) ∧ Pgl (fun k => w.heap.size ≤ k) w' r (List.replicate n (fillB 0)) ∧ Kp none' w w' := by
  have hka := Kp.alloc none' w (.cells #[.slice none 0 0] 70)
  have hb : (w.alloc (.cells #[.slice none 0 0] 70)).heap[w.heap.size]? = some (.cells #[.slice none 0 0] 70 (0, 0)) := heap_alloc_new w _
  obtain ⟨wa, Ha⟩ : ∃ wa, Hid (w.alloc (.cells #[.slice none 0 0] 70) = wa) := ⟨_, rfl⟩
  rw [Ha.out] at hka hb
  obtain ⟨r, HG⟩ : ∃ r, Hid (w.heap.size = r) := ⟨_, rfl⟩
  rw [HG.out] at hb ⊢
  obtain ⟨i0, hi, hz0, hz1, hz2⟩ := info_parts infoStr
  obtain ⟨Z, HZ⟩ : ∃ Z : ByteArray, Hid (fillB 0 = Z) := ⟨_, rfl⟩
  have R0 : Pn wa r none 0 0 Z := ⟨by rw [cell_of_row _ _ _ _ _ _ hb]; rfl, by unfold World.frozen?; rw [show wa.heap[(⟨r, 0, none⟩ : Addr).block]? = _ from hb]; simp, World.ownsRow_nil wa (r + 1) _ 1⟩
  have hra : r < wa.heap.size := (Array.getElem?_eq_some_iff.1 hb).1
  clear hb
  go_enter Tryz.func10, Tryz.ntmps10
  go_upto_region 2 with fail
  rw [Ha.out, HG.out]
  go_wp2
  go_loopw [4] (fun t wr => ∃ (k : Nat) (a : Option Addr) (cap : Nat), k ≤ n ∧ t = .int .i64 k ∧ Pn wr r a cap k Z ∧ Kp none' w wr) (fun t _ => n - (intOf t).toNat)
  case atStart => exact ⟨0, none, 0, Nat.zero_le _, rfl, R0, hka⟩
  case round =>
    obtain ⟨k, a, cap, hk, rfl, hR, hKr⟩ := hrel
    clear R0 hka
    by_cases hlt : k < n
    · have hk' : (k : Int) < (n : Int) := by omega
      have c0 := hR.c0
      have k0 : ∀ W : World, Kp none' wr W → W.cell? ⟨r, 0, none⟩ = some (.slice a k cap) := fun W h => h.cell c0 (fun h => h)
      have dr : Kp none' wr wr.drew := Kp.drew _ _
      have c0d := k0 _ dr
      have HR : Hid (Pn wr r a cap k Z) := hR
      have HK : Hid (Kp none' w wr) := hKr
      have Hrow : Hid (∀ z, (Value.slice a k cap).ownBlock = some z → r + 1 ≤ z) := fun z hz => (World.ownsRow.lt hR.ow z hz).1
      have Hb : Hid ((k + 1) * 16 ≤ 140737488355328 ∧ k + 1 ≤ maxLen) := ⟨by omega, by unfold maxLen; omega⟩
      have Hsz : Hid (r + 1 ≤ wr.heap.size) := lt_of_cell c0
      clear hR hKr
      go_upto_region 5 with fail
      go_region_law (first
        | (go_simp; go_at_call 25; refine (zero_any _).mono ?_; rintro e w2 ⟨rfl, hk2⟩; rw [HZ.out]; have S2 : Kp none' wr w2 := Kp.then (by assumption) hk2; have c2 := k0 _ S2; have ca : ∀ o, (w2.alloc o).cell? ⟨r, 0, none⟩ = some (.slice a k cap) := fun o => k0 _ (S2.then (Kp.alloc none' w2 o)))
        | (refine pstep_append (by rfl) (.tmp 16) (.tmp 18) 68 68 (by rfl) (r + 1) 9 i0 _ 1 16 Tryz.underlying68 hi hz0 (by rfl) hz1 hz2 (.slice a k cap) _ _ (by rfl) (World.ownsRow.alloc (prow_kept HR.out.ow S2 (fun _ _ h => h)) _) _ 1 [.string Z] (by rfl) (src_cell _ 68 9 Tryz.underlying68 _ rfl _ (by rfl)) (by omega) Hb.out.1 Hb.out.2 (by have := S2.size; have := Hsz.out; simp; omega) ?_; intro v4 w4 ho4 hg4 hv4; obtain ⟨a4, m4, rfl⟩ := prow_shape ho4; have hk4 : Kp (fun z => (Value.slice a k cap).ownBlock = some z) wr w4 := (S2.mono (fun _ _ h => h.elim)).then ((Kp.alloc _ w2 _).then (Kp.ofGrown hg4 (fun z hz _ => hz))); have c4 := hk4.cell c0 (fun h => by have := Hrow.out r h; omega); have f4 : w4.frozen? ⟨r, 0, none⟩ = false := by rw [hk4.frozen (Nat.lt_of_succ_le Hsz.out) (fun h => by have := Hrow.out r h; omega)]; exact HR.out.fr)
        | fail)
      all_goals
        have hkS : Kp (only r) w4 (w4.setCell ⟨r, 0, none⟩ (.slice a4 (k + 1) m4)) := Kp.setCell _ _ _ _ rfl
        have hR5 : Pn (w4.setCell ⟨r, 0, none⟩ (.slice a4 (k + 1) m4)) r a4 m4 (k + 1) Z := by
          refine ⟨World.cell?_setCell_same _ _ _ c4, by rw [World.frozen?_setCell]; exact f4, prow_kept ?_ hkS (fun z hz h => ?_)⟩
          · rw [List.replicate_succ']
            exact ho4
          · have := (World.ownsRow.lt ho4 z hz).1
            unfold only at h
            omega
        have hK5 : Kp none' w (w4.setCell ⟨r, 0, none⟩ (.slice a4 (k + 1) m4)) := (HK.out.trans hk4 (fun _ _ h => h) (fun z hz h => absurd hz (by have := Hrow.out z h; have := HG.out; omega))).trans hkS (fun _ _ h => h) (fun z hz h => absurd hz (by have := HG.out; unfold only at h; omega))
        go_wp2
        go_roundw
        case rel => exact ⟨k + 1, _, _, by omega, by go_num, hR5, hK5⟩
        case measure => simp [intOf]; omega
    · obtain rfl : k = n := by omega
      have hP : Pgl (fun j => r ≤ j) wr r (List.replicate k (fillB 0)) := by
        rw [HZ.out]
        refine ⟨⟨_, hR.c0, ?_⟩, Nat.le_refl _⟩
        have hO : Ow Value.string 9 wr (r + 1) (.slice a k cap) (List.replicate k Z) := by
          unfold Ow
          rw [List.length_replicate, List.map_replicate]
          exact hR.ow
        exact hO.txs.mono (fun j _ hj => Nat.le_of_succ_le hj)
      clear hR
      go_wp2
      go_ret
      exact ⟨r, rfl, hP, hKr⟩

/-- May changes be? -/
def rightE (n : Nat) (l : List Chg) : Int := if 31 < l.length then 3 else if allB n (l.map Chg.page) then (if (l.map Chg.page).Nodup then 0 else 1) else 7
theorem refE_right {n : Nat} {l : List Chg} (hn : n ≤ 160) (hd : ∀ c ∈ l, c.data.size = 256) : refE n [] l = rightE n l := by
  unfold refE rightE
  rw [if_neg (by simp)]
  by_cases h1 : 31 < l.length
  · rw [if_pos h1, if_pos h1]
  · rw [if_neg h1, if_neg h1]
    cases hall : allB n (l.map Chg.page) with
    | false => rfl
    | true =>
      rw [if_pos rfl, if_pos rfl, if_pos hd]
      have hA : ∀ z ∈ l.map Chg.page, 0 ≤ z ∧ z < 65536 := fun z hz => by
        unfold allB at hall
        rw [List.all_eq_true] at hall
        have := hall z hz
        simp [hasB] at this
        omega
      unfold wE okP
      rw [if_neg (by rw [List.length_map]; exact h1)]
      by_cases hnd : (l.map Chg.page).Nodup
      · rw [if_pos hnd, if_pos (by simp only [decide_eq_true_eq]; exact ⟨hA, hnd⟩)]
      · rw [if_neg hnd, if_neg (by simp only [decide_eq_true_eq]; exact fun h => hnd h.2)]
theorem right_ok {n : Nat} {l : List Chg} (h : rightE n l = 0) (hd : ∀ c ∈ l, c.data.size = 256) : okC n l := by
  unfold rightE at h
  by_cases h1 : 31 < l.length
  · rw [if_pos h1] at h; cases h
  · rw [if_neg h1] at h
    cases hall : allB n (l.map Chg.page) with
    | false => rw [hall] at h; cases h
    | true =>
      rw [hall, if_pos rfl] at h
      by_cases hnd : (l.map Chg.page).Nodup
      · refine ⟨fun c hc => ?_, hd, hnd, by omega⟩
        unfold allB at hall
        rw [List.all_eq_true] at hall
        have := hall c.page (List.mem_map_of_mem hc)
        simpa [hasB] using this
      · rw [if_neg hnd] at h; cases h
theorem nodup_snoc {l : List Int} {z : Int} : (l ++ [z]).Nodup ↔ l.Nodup ∧ z ∉ l := by
  rw [List.nodup_append]
  simp
  intro _
  constructor
  · intro h hz; exact h z hz rfl
  · intro h a ha e; subst e; exact h ha
set_option maxRecDepth 100000 in
set_option maxHeartbeats 1600000 in
theorem right_any (r : Nat) (S S' : Nat → Prop) (Q : List ByteArray) (v : Value) (l : List Chg) (w : World) (hQ : Pgl S w r Q) (hS : Chs S' w v l) (hd : ∀ c ∈ l, c.data.size = 256) (hq : Q.length ≤ 160) :
    Calls Tryz.prog 12 #[.pointer (some ⟨r, 0, none⟩), v] w fun e w' => e = .returned (.int .i64 (rightE Q.length l)) ∧ Kp none' w w' := by
  obtain ⟨lv, q0, hT⟩ := hQ.i
  obtain ⟨qa, qc, rfl⟩ : ∃ a c, lv = .slice a Q.length c := by obtain ⟨a, c, h, _⟩ := hT; exact ⟨a, c, h⟩
  clear hT
  obtain ⟨a, cc, rfl, hlc, hcm, ha'⟩ := hS
  have hlm : l.length ≤ maxLen := Nat.le_trans hlc hcm
  unfold maxLen at hlm
  have ha := hide ha'
  clear ha'
  obtain ⟨E, HE⟩ : ∃ E, Hid (rightE Q.length l = E) := ⟨_, rfl⟩
  rw [HE.out]
  by_cases hl : 31 < l.length
  · have hE3 : E = 3 := by rw [← HE.out]; unfold rightE; rw [if_pos hl]
    have hli : (31 : Int) < (l.length : Int) := by omega
    go_enter Tryz.func12, Tryz.ntmps12
    go_wp2
    go_ret
    exact ⟨by first | rfl | (rw [hE3]; rfl), Kp.refl _ _⟩
  · have hli : ¬ (31 : Int) < (l.length : Int) := by omega
    have HB7 : Hid (∀ j (h : j < l.length), hasB Q.length l[j].page = false → E = 7) := fun j h hx => by
      rw [← HE.out]
      unfold rightE
      rw [if_neg hl]
      have : allB Q.length (l.map Chg.page) = false := by
        unfold allB
        rw [List.all_eq_false]
        exact ⟨l[j].page, List.mem_map_of_mem (List.getElem_mem h), by simp [hx]⟩
      rw [this]
      rfl
    go_enter Tryz.func12, Tryz.ntmps12
    go_upto_region 4 with fail
    go_loopw [5] (fun t wr => ∃ k : Nat, k ≤ l.length ∧ t = .int .i64 k ∧ (∀ j (h : j < l.length), j < k → hasB Q.length l[j].page = true) ∧ Kp none' w wr) (fun t _ => l.length - (intOf t).toNat)
    case atStart => exact ⟨0, Nat.zero_le _, rfl, fun _ _ h => absurd h (by omega), Kp.refl _ _⟩
    case round =>
      obtain ⟨k, hk, rfl, hA, hK⟩ := hrel
      by_cases hlt : k < l.length
      · have hki : (k : Int) < (l.length : Int) := by omega
        obtain ⟨b, o, rfl, _, hbl, hc0, hc1⟩ := ha.out k hlt
        have d0 := hK.cell hc0 (fun h => h)
        have q0r := hK.cell q0 (fun h => h)
        have HX := hide (HB7.out k hlt)
        have HA := hide hA
        have HS : Hid (hasB Q.length l[k].page = true → ∀ j (h : j < l.length), j < k + 1 → hasB Q.length l[j].page = true) := fun he j hj hjk => by
          by_cases e : j = k
          · subst e; exact he
          · exact HA.out j hj (by omega)
        clear hA hc0 hc1
        generalize l[k].page = z at *
        by_cases hz0 : z < 0
        · have hb : hasB Q.length z = false := by simp [hasB]; omega
          have hE7 := HX.out hb
          go_upto_region 6 with fail
          go_quiet (fail)
          go_wp2
          go_ret
          exact ⟨by first | rfl | (rw [hE7]; rfl), hK.then (Kp.drewN _ _ _)⟩
        · by_cases hz1 : (Q.length : Int) ≤ z
          · have hb : hasB Q.length z = false := by simp [hasB]; omega
            have hE7 := HX.out hb
            go_upto_region 6 with fail
            go_quiet (fail)
            go_wp2
            go_ret
            exact ⟨by first | rfl | (rw [hE7]; rfl), hK.then (Kp.drewN _ _ _)⟩
          · have hb : hasB Q.length z = true := by simp [hasB]; omega
            go_upto_region 6 with fail
            go_quiet (fail)
            go_wp2
            go_roundw
            case rel => exact ⟨k + 1, by omega, by go_num, HS.out hb, hK.then (Kp.drewN _ _ _)⟩
            case measure => simp [intOf]; omega
      · obtain rfl : k = l.length := by omega
        have hall : allB Q.length (l.map Chg.page) = true := by
          unfold allB
          rw [List.all_eq_true]
          intro z hz
          obtain ⟨j, hj, rfl⟩ := List.getElem_of_mem hz
          rw [List.getElem_map]
          rw [List.length_map] at hj
          exact hA j hj hj
        have HEN : Hid (((l.map Chg.page).Nodup → E = 0) ∧ (¬ (l.map Chg.page).Nodup → E = 1)) := by
          rw [← HE.out]
          show _ ∧ _
          unfold rightE
          rw [if_neg hl, if_pos hall]
          exact ⟨fun h => by rw [if_pos h], fun h => by rw [if_neg h]⟩
        clear hA hall HB7
        go_upto_region 9 with fail
        go_loopw [6] (fun t wr => ∃ k : Nat, k ≤ l.length ∧ t = .int .i64 k ∧ ((l.take k).map Chg.page).Nodup ∧ Kp none' w wr) (fun t _ => l.length - (intOf t).toNat)
        case atStart => exact ⟨0, Nat.zero_le _, rfl, by simp, hK⟩
        case round =>
          obtain ⟨k, hk, rfl, hN, hK⟩ := hrel
          by_cases hlt : k < l.length
          · have hki : (k : Int) < (l.length : Int) := by omega
            obtain ⟨b, o, rfl, _, hbl, hc0, hc1⟩ := ha.out k hlt
            have d0 := hK.cell hc0 (fun h => h)
            have d1 := hK.cell hc1 (fun h => h)
            have hsz : ((l[k].data.size : Int) != 256) = false := by simp [hd l[k] (List.getElem_mem hlt)]
            have HC0 := hide hc0
            have HN := hide hN
            have HTK : Hid ((l.take (k + 1)).map Chg.page = (l.take k).map Chg.page ++ [l[k].page]) := by
              show _ = _
              rw [List.take_succ_eq_append_getElem hlt, List.map_append]
              rfl
            have HDUP : Hid (l[k].page ∈ (l.take k).map Chg.page → E = 1) := fun hm => by
              refine HEN.out.2 (fun hnd => ?_)
              have h1 : ((l.take (k + 1)).map Chg.page).Nodup := by
                rw [List.map_take]
                exact List.Nodup.sublist (List.take_sublist _ _) hnd
              rw [HTK.out, nodup_snoc] at h1
              exact h1.2 hm
            generalize l[k].data = x at *
            generalize hz : l[k].page = z at *
            clear hN hc0 hc1 hz
            go_upto_region 14 with fail
            go_loopw [7] (fun t wr => ∃ m : Nat, m ≤ k ∧ t = .int .i64 m ∧ (∀ j (h : j < l.length), j < m → l[j].page ≠ z) ∧ Kp none' w wr) (fun t _ => k - (intOf t).toNat)
            case atStart => exact ⟨0, Nat.zero_le _, rfl, fun _ _ h => absurd h (by omega), hK⟩
            case round =>
              obtain ⟨m, hm, rfl, hM, hK⟩ := hrel
              by_cases hmk : m < k
              · have hmi : (m : Int) < (k : Int) := by omega
                have hml : m < l.length := by omega
                have hmli : (m : Int) < (l.length : Int) := by omega
                obtain ⟨b', o', e', _, hbl', hc0', hc1'⟩ := ha.out m hml
                cases e'
                have d0 := hK.cell HC0.out (fun h => h)
                have d0' := hK.cell hc0' (fun h => h)
                have HM := hide hM
                have HIN : Hid (l[m].page ∈ (l.take k).map Chg.page) := List.mem_map_of_mem (by
                  rw [show l[m] = (l.take k)[m]'(by rw [List.length_take]; omega) from List.getElem_take.symm]
                  exact List.getElem_mem _)
                have HS : Hid (l[m].page ≠ z → ∀ j (h : j < l.length), j < m + 1 → l[j].page ≠ z) := fun he j hj hjk => by
                  by_cases e : j = m
                  · subst e; exact he
                  · exact HM.out j hj (by omega)
                clear hM hc0' hc1'
                generalize l[m].page = y at *
                by_cases he : z = y
                · have hbe : (z == y) = true := by simp [he]
                  have hE1 : E = 1 := HDUP.out (by rw [he]; exact HIN.out)
                  clear he
                  go_upto_region 16 with fail
                  go_quiet (fail)
                  go_wp2
                  go_ret
                  exact ⟨by first | rfl | (rw [hE1]; rfl), hK.then (Kp.drewN _ _ _)⟩
                · have hbe : (z == y) = false := by simpa using he
                  go_upto_region 16 with fail
                  go_quiet (fail)
                  go_wp2
                  go_roundw
                  case rel => exact ⟨m + 1, by omega, by go_num, HS.out (fun h => he h.symm), hK.then (Kp.drewN _ _ _)⟩
                  case measure => simp [intOf]; omega
              · obtain rfl : m = k := by omega
                go_wp2
                go_roundw
                case rel =>
                  refine ⟨m + 1, by omega, by go_num, ?_, hK⟩
                  rw [HTK.out, nodup_snoc]
                  refine ⟨HN.out, fun hmem => ?_⟩
                  obtain ⟨c, hc, he⟩ := List.mem_map.1 hmem
                  obtain ⟨j, hj, rfl⟩ := List.getElem_of_mem hc
                  rw [List.length_take] at hj
                  rw [List.getElem_take] at he
                  exact hM j (by omega) (by omega) he
                case measure => simp [intOf]; omega
          · obtain rfl : k = l.length := by omega
            rw [List.take_length] at hN
            have hE0 := HEN.out.1 hN
            go_wp2
            go_ret
            exact ⟨by first | rfl | (rw [hE0]; rfl), hK⟩

end Go.Proofs.YtgfijbbibafdfaaGreat
