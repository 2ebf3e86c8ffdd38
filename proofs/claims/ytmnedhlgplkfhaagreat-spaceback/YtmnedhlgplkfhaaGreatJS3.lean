/- Contracts, over the turned program: the document's piece of work (factotumref08): Begin, Back. Conditions: those that each theorem states. Contracts, over the turned program: the document's piece of work (factotumref08): Begin, Back. Conditions: those that each theorem states. Contract, over the turned program: the document's piece of work (factotumref08): Save. Conditions: those that the theorem states. Contract, over the turned program: the document's piece of work (factotumref08): Changed. Conditions: those that the theorem states. Contract, over the turned program: the document's piece of work (factotumref08): Commit. Conditions: those that the theorem states. What a piece of work commits, as changes of pages: plain mathematics, nothing of the program. Conditions: those that each theorem states. -/
import Derived.Test.YtmnedhlgplkfhaaGreatJS2
import Derived.Deep.RegionLaw
import Derived.Test.YtmnedhlgplkfhaaGreatJP3
namespace Go.Proofs.YtmnedhlgplkfhaaGreat
open Go.RowKit
set_option linter.unusedVariables false

/-- An append to a row of one cell an element that a call itself has laid, also of none to none. -/
theorem app_own {α : Type} (f : α → Value) (t e ty : TypeId) (z : Value) (by_ : Nat) (ht : Tryz.prog.underlying t = some (.slice e)) (hinfo : (Tryz.prog.info? e).map (fun i => (i.zero, i.size, i.bytes)) = some (some z, 1, by_)) (hzc : z.cells.size = 1) (hby : by_ ≤ 64)
    (w : World) (base : Nat) (v : Value) (l : List α) (x : Value) (k : List α) (hO : Ow f e w base v l) (hs : Src Tryz.prog 1 t x k.length (k.map f) w) (hb : base ≤ w.heap.size) (hl : l.length + k.length ≤ 1000000) :
    ∃ v' w', (Builtin.append_ #[t, t] ty #[v, x]).run Tryz.prog w = .ok v' w' ∧ Ow f e w' base v' (l ++ k) ∧ w.grownBy w' v.ownBlock ∧ (v'.ownBlock = v.ownBlock ∨ v'.ownBlock = some w.heap.size) := by
  obtain ⟨i0, hi, hz0, hz1, hz2⟩ := info_parts hinfo
  by_cases h0 : 0 < l.length + k.length
  · obtain ⟨v', w', h1, h2, h3, h4⟩ := run_append_own_row (P := Tryz.prog) w base t t ty e i0 z 1 by_ ht hi hz0 hzc hz1 hz2 v l.length (l.map f) hO x k.length (k.map f) hs h0 (by
      have : (l.length + k.length) * by_ ≤ 1000000 * 64 := Nat.mul_le_mul hl hby
      omega) (by unfold maxLen; omega) hb
    refine ⟨v', w', h1, ?_, h3, h4⟩
    unfold Ow
    rw [List.length_append, List.map_append]
    exact h2
  · have hl0 : l = [] := List.eq_nil_of_length_eq_zero (by omega)
    have hk0 : k = [] := List.eq_nil_of_length_eq_zero (by omega)
    subst hl0 hk0
    have hs' : Src Tryz.prog i0.size t x 0 [] w := by rw [hz1]; exact hs
    have hf := hs'.cells
    refine ⟨v, w, ?_, hO, ⟨rfl, rfl, rfl, Nat.le_refl _, fun _ _ _ => rfl⟩, .inl rfl⟩
    rcases hO.2 with ⟨rfl, _⟩ | ⟨g, cap, cur, rfl, _⟩
    · simp [Builtin.append_, run_underlying ht, sizeOf, typeInfo, hi, hs'.len, hf]
    · simp [Builtin.append_, run_underlying ht, sizeOf, typeInfo, hi, hs'.len, hf, Addr.add_lit, storeCells]
theorem rwp_app_at {P : Program} {w : World} {o : Oper} {a : Act} {K : Act → World → Prop} {Q : Exit → Act → World → Prop} (s x : Operand) (t tx : TypeId)
    (ho : o.op = .call { callee := .builtin .append, args := #[s, x], argTypes := #[t, tx] }) (v xv : Value) (hs : a.eval s = v) (hx : a.eval x = xv) {v' : Value} {w' : World}
    (hr : (Builtin.append_ #[t, tx] o.type #[v, xv]).run P w = .ok v' w') (h : K (a.put o.dst v') w') : o.wp P a w K Q := by
  unfold Oper.wp execOp
  simp only [ho, resolve, invoke, builtin, Sem.run_bind, Sem.run_pure, Result.andThen_ok, List.map_toArray, List.map_cons, List.map_nil, hs, hx, hr]
  exact h
theorem rwpList_app_at {P : Program} {w : World} {ops : Array Oper} {rest : List Oper} {o : Oper} {a : Act} {Q : Exit → Act → World → Prop} (hgd : o.guard = none) (s x : Operand) (t tx : TypeId)
    (ho : o.op = .call { callee := .builtin .append, args := #[s, x], argTypes := #[t, tx] }) (v xv : Value) (hs : a.eval s = v) (hx : a.eval x = xv) {v' : Value} {w' : World}
    (hr : (Builtin.append_ #[t, tx] o.type #[v, xv]).run P w = .ok v' w') (h : wpList P ops Q rest (a.put o.dst v') w') : wpList P ops Q (o :: rest) a w :=
  wpList_plain hgd fun _ hK => rwp_app_at s x t tx ho v xv hs hx hr (hK _ _ h)
theorem rpstep_app_at {P : Program} {w : World} {ops : Array Oper} {o : Oper} {a : Act} {K : Act → World → Prop} {Q : Exit → Act → World → Prop} {E : Prop} (hgd : o.guard = none) (s x : Operand) (t tx : TypeId)
    (ho : o.op = .call { callee := .builtin .append, args := #[s, x], argTypes := #[t, tx] }) (v xv : Value) (hs : a.eval s = v) (hx : a.eval x = xv) {v' : Value} {w' : World}
    (hr : (Builtin.append_ #[t, tx] o.type #[v, xv]).run P w = .ok v' w') (h : K (a.put o.dst v') w') : if Region.wanted o (yielded ops a.tmps) = true then Oper.wp P o a w K Q else E := by
  have hw : Region.wanted o (yielded ops a.tmps) = true := by simp [Region.wanted, hgd]
  rw [if_pos hw]
  exact rwp_app_at s x t tx ho v xv hs hx hr h
/-- Texts in memory, as what is appended. -/
theorem Txs.src {G : Nat → Prop} {w : World} {v : Value} {l : List ByteArray} (h : Txs G w v l) : Src Tryz.prog 1 43 v l.length (l.map Value.string) w := by
  obtain ⟨a, c, rfl, h1, h2, h3⟩ := h
  cases l with
  | nil =>
    cases a with
    | none => exact Src.ofNil w Tryz.underlying43 c
    | some a => exact Src.ofSlice w Tryz.underlying43 a 0 c [] (by simp) (by simp) (by simp)
  | cons x l =>
    obtain ⟨b, off, rfl, _, _, _⟩ := h3 0 (by simp)
    refine Src.ofSlice w Tryz.underlying43 ⟨b, off, none⟩ _ c _ (by simp) (fun j u hu => ?_) (fun u hu => ?_)
    · rw [List.getElem?_map] at hu
      have hj : j < (x :: l).length := by
        cases hlt : (x :: l)[j]? with
        | none => rw [hlt] at hu; cases hu
        | some y => exact (List.getElem?_eq_some_iff.1 hlt).1
      obtain ⟨b', off', he, _, _, hc⟩ := h3 j hj
      cases he
      rw [List.getElem?_eq_getElem hj] at hu
      have plain : (⟨b, off, none⟩ : Addr).add j = ⟨b, off + j, none⟩ := by unfold Addr.add; split <;> simp_all
      rw [plain, hc]
      exact hu
    · obtain ⟨y, _, rfl⟩ := List.mem_map.1 hu
      rfl
/-- A copy of texts. -/
theorem copy_txs (w : World) {G : Nat → Prop} {v : Value} {Q : List ByteArray} (h : Txs G w v Q) (h0 : 0 < Q.length) (h1 : Q.length ≤ 160) :
    ∃ g c w', (Builtin.append_ #[43, 43] 43 #[.slice none 0 0, v]).run Tryz.prog w = .ok (.slice (some ⟨g, 0, none⟩) Q.length c) w' ∧ Ow Value.string 9 w' w.heap.size (.slice (some ⟨g, 0, none⟩) Q.length c) Q ∧ w.heap.size ≤ g ∧ g < w'.heap.size ∧ Kp none' w w' := by
  obtain ⟨v', w', a1, a2, a3, a4⟩ := app_own Value.string 43 9 43 _ 16 Tryz.underlying43 infoStr (by rfl) (by omega) w w.heap.size (.slice none 0 0) [] v Q (Ow.nil _ _ _ _) h.src (Nat.le_refl _) (by simp only [List.length_nil]; omega)
  rw [List.nil_append] at a2
  rcases a2.shape with ⟨e1, e2⟩ | ⟨g, c, rfl, e2, e3, _⟩
  · rw [e2] at h0; exact absurd h0 (by simp)
  · exact ⟨g, c, w', a1, a2, e2, e3, Kp.ofGrown a3 (fun k he _ => by cases he)⟩

end Go.Proofs.YtmnedhlgplkfhaaGreat

namespace Go.Proofs.YtmnedhlgplkfhaaGreat
open Go.RowKit
set_option linter.unusedVariables false

set_option maxRecDepth 100000 in
set_option maxHeartbeats 1600000 in
theorem rbegin_any (rp : Nat) (Gp : Nat → Prop) (Q : List ByteArray) (w : World) (hP : Pgl Gp w rp Q) (h0 : 0 < Q.length) (h1 : Q.length ≤ 160) (hQ : ∀ x ∈ Q, x.size = 256) :
    Calls Tryz.prog 22 #[.pointer (some ⟨rp, 0, none⟩)] w fun e w' => ∃ r gN, e = .returned (.pointer (some ⟨r, 0, none⟩)) ∧ Rw w' r gN (fun k => w.heap.size ≤ k) ⟨Q, Q, [], false⟩ ∧ w.heap.size ≤ r ∧ Kp none' w w' := by
  obtain ⟨lv, c0, hT⟩ := hP.i
  have hTd := hT.kept (Kp.drew none' w) (fun _ _ h => h)
  obtain ⟨g1, c1, w1, hap1, hO1, hg1, hg1', hk1⟩ := copy_txs w.drew hTd h0 h1
  have hT1 := hTd.kept hk1 (fun _ _ h => h)
  obtain ⟨g2, c2, w2, hap2, hO2, hg2, hg2', hk2⟩ := copy_txs w1 hT1 h0 h1
  obtain ⟨la, lc, hlv, _⟩ := hT
  subst hlv
  have c0d : w.drew.cell? ⟨rp, 0, none⟩ = some (.slice la Q.length lc) := c0
  have c01 := hk1.cell c0d (fun h => h)
  have c02 := hk2.cell c01 (fun h => h)
  have HFIN : Hid (∀ (ga ca gb cb : Nat), ga ≠ gb → w.heap.size ≤ ga → w.heap.size ≤ gb → ga < w2.heap.size → gb < w2.heap.size → Ow Value.string 9 w2 w.heap.size (.slice (some ⟨ga, 0, none⟩) Q.length ca) Q → Ow Value.string 9 w2 w.heap.size (.slice (some ⟨gb, 0, none⟩) Q.length cb) Q →
      Rw (w2.alloc (.cells #[.slice (some ⟨ga, 0, none⟩) Q.length ca, .slice (some ⟨gb, 0, none⟩) Q.length cb, .slice none 0 0, .bool false] 72)) w2.heap.size gb (fun k => w.heap.size ≤ k) ⟨Q, Q, [], false⟩) := fun ga ca gb cb hne hga hgb hla hlb hOa hOb => by
    have cell := new_cell w2 #[.slice (some ⟨ga, 0, none⟩) Q.length ca, .slice (some ⟨gb, 0, none⟩) Q.length cb, .slice none 0 0, .bool false] 72
    have ka := Kp.alloc none' w2 (.cells #[.slice (some ⟨ga, 0, none⟩) Q.length ca, .slice (some ⟨gb, 0, none⟩) Q.length cb, .slice none 0 0, .bool false] 72)
    have hTa : Txs (fun k => w.heap.size ≤ k ∧ k ≠ w2.heap.size ∧ k ≠ gb) w2 (.slice (some ⟨ga, 0, none⟩) Q.length ca) Q := by
      obtain ⟨a', c', he, q1, q2, q3⟩ := hOa.txs
      cases he
      refine ⟨some ⟨ga, 0, none⟩, ca, rfl, q1, q2, fun i hi => ?_⟩
      obtain ⟨b, o, he, qb, ql, qc⟩ := q3 i hi
      cases he
      exact ⟨ga, 0, rfl, ⟨hga, by omega, hne⟩, ql, qc⟩
    refine ⟨⟨cb, cell 1 _ rfl, (Ow.mono (hOb.keptN ka) (Nat.zero_le _))⟩, ⟨_, [], cell 2 _ rfl, Ow.nil _ _ _ _, (fun k hk => by cases hk), rfl, (fun i h => absurd h (by simp)), _, cell 0 _ rfl, (hTa.mono (fun k _ h => ⟨h.1, h.2.1, h.2.2, by intro e; cases e⟩)).kept ka (fun _ _ h => h)⟩, cell 3 _ rfl, new_frozen _ _ _, ⟨hgb, by omega⟩, h0, h1, hQ, rfl, by simp⟩
  have hws : w.drew.heap.size = w.heap.size := rfl
  rw [hws] at hO1 hg1
  have hK2 : Kp none' w w2 := ((Kp.drew none' w).then hk1).then hk2
  have hO12 := hO1.keptN hk2
  have hs1 := hk1.size
  rw [hws] at hs1
  have hO2' : Ow Value.string 9 w2 w.heap.size (.slice (some ⟨g2, 0, none⟩) Q.length c2) Q := Ow.mono hO2 hs1
  have HA := hide (HFIN.out g1 c1 g2 c2 (by omega) hg1 (by omega) (by have := hk2.size; omega) hg2' hO12 hO2')
  have HB := hide (HFIN.out g2 c2 g1 c1 (by omega) (by omega) hg1 hg2' (by have := hk2.size; omega) hO2' hO12)
  have HK2 := hide hK2
  obtain ⟨ln, HL⟩ : ∃ ln, Hid (Q.length = ln) := ⟨_, rfl⟩
  rw [HL.out] at hap1 hap2 c0 c0d c01 c02 HA HB
  clear HFIN hO1 hO2 hO12 hO2' hk1 hk2 hT1 hTd hK2 hP
  go_enter Tryz.func22, Tryz.ntmps22
  go_upto_region 1 with fail
  go_region_law (first
    | (refine rpstep_app_at (by rfl) (.const (.slice none 0 0)) (.tmp 6) 43 43 (by rfl) _ _ (by rfl) (by rfl) hap1 ?_)
    | (refine rpstep_app_at (by rfl) (.const (.slice none 0 0)) (.tmp 6) 43 43 (by rfl) _ _ (by rfl) (by rfl) hap2 ?_)
    | (refine rpstep_app_at (by rfl) (.const (.slice none 0 0)) (.tmp 11) 43 43 (by rfl) _ _ (by rfl) (by rfl) hap1 ?_)
    | (refine rpstep_app_at (by rfl) (.const (.slice none 0 0)) (.tmp 11) 43 43 (by rfl) _ _ (by rfl) (by rfl) hap2 ?_)
    | fail)
  all_goals (
    simp only [List.getElem_toArray, List.getElem_cons_succ, List.getElem_cons_zero, Act.put, List.setIfInBounds_toArray, List.set_cons_zero, List.set_cons_succ]
    go_wp2
    go_ret
    first
      | exact ⟨w2.heap.size, g2, rfl, HA.out, HK2.out.size, HK2.out.then (Kp.alloc none' w2 _)⟩
      | exact ⟨w2.heap.size, g1, rfl, HB.out, HK2.out.size, HK2.out.then (Kp.alloc none' w2 _)⟩)
theorem Ow.takeN {α : Type} {f : α → Value} {e : TypeId} {w : World} {base g n cap : Nat} {l : List α} (h : Ow f e w base (.slice (some ⟨g, 0, none⟩) n cap) l) (hn : n = l.length) (k : Nat) (hk : k ≤ l.length) : Ow f e w base (.slice (some ⟨g, 0, none⟩) k cap) (l.take k) := by
  have e1 : (l.take k).length = k := by rw [List.length_take]; omega
  rcases h.2 with ⟨h1, _⟩ | ⟨g', cap', cur, h1, hb, hg, h2, h3, h4, h5⟩
  · cases h1
  · cases h1
    unfold Ow
    rw [e1]
    refine ⟨by rw [List.length_map, e1]; omega, .inr ⟨g, cap, cur, rfl, hb, hg, by omega, h3, h4, ?_⟩⟩
    have : (cur.toList.take (l.length * 1)).take k = (l.map f).take k := by rw [h5]
    rw [List.take_take, Nat.min_eq_left (by omega)] at this
    rw [Nat.mul_one, this, List.map_take]
set_option maxRecDepth 100000 in
set_option maxHeartbeats 1600000 in
theorem rback_any (r gN : Nat) (z : Int) (G : Nat → Prop) (S : Sw) (w : World) (H : Rw w r gN G S) (hm : S.notes.length ≤ 1000) :
    Calls Tryz.prog 41 #[.pointer (some ⟨r, 0, none⟩), .int .i64 z] w fun e w' => e = .returned (.int .i64 (S.backE z)) ∧ (∃ gN', Rw w' r gN' (fun k => G k ∨ w.heap.size ≤ k) (S.back z)) ∧ Kp (only r) w w' := by
  have c3 := H.c3
  have HW : Hid (Rw w r gN (fun k => G k ∨ w.heap.size ≤ k) S) := by
    obtain ⟨u, us, d1, d2, d3, d4, d5, v, a1, a2⟩ := H.c2
    exact ⟨H.c1, ⟨u, us, d1, d2, fun k hk => ⟨.inl (d3 k hk).1, (d3 k hk).2⟩, d4, fun i h h' => (d5 i h h').mono (fun k _ h => ⟨.inl h.1, h.2⟩), v, a1, a2.mono (fun k _ h => ⟨.inl h.1, h.2⟩)⟩, H.c3, H.fr, ⟨.inl H.gg.1, H.gg.2⟩, H.l0, H.l1, H.sz, H.bl, H.nt⟩
  obtain ⟨nv, vs, c2, hOn, hOb, hvl, hvt, bv, hb0, hbT⟩ := H.c2
  obtain ⟨na, nc, hnv, hnk⟩ := hOn.open
  rw [hvl] at hnv
  cases hov : S.over with
  | true =>
    have e1 : S.backE z = 13 := by unfold Sw.backE; rw [hov]; rfl
    have e2 : S.back z = S := by unfold Sw.back; rw [e1]; rfl
    rw [e1, e2]
    rw [hov] at c3
    clear H
    go_enter Tryz.func41, Tryz.ntmps41
    go_wp2
    go_ret
    exact ⟨rfl, ⟨gN, HW.out⟩, Kp.refl _ _⟩
  | false =>
    rw [hov] at c3
    by_cases hz : 0 ≤ z ∧ z < (S.notes.length : Int)
    · have e1 : S.backE z = 0 := by unfold Sw.backE; rw [hov, if_pos hz]; rfl
      obtain ⟨n, hzn⟩ : ∃ n : Nat, z = (n : Int) := ⟨z.toNat, by omega⟩
      subst hzn
      have hnl : n < S.notes.length := by omega
      have hnv' : n < vs.length := by omega
      have e2 : S.back (n : Int) = { S with now := S.notes[n], notes := S.notes.take (n + 1) } := by
        unfold Sw.back
        rw [if_pos e1, Int.toNat_natCast, List.getD_eq_getElem?_getD, List.getElem?_eq_getElem hnl]
        rfl
      rw [e1, e2]
      obtain ⟨gK, hna, _, hcn⟩ := hnk n hnv'
      subst hna
      subst hnv
      have hnt := H.nt _ (List.getElem_mem hnl)
      have hbl := H.bl
      have hTn := hvt n hnv' hnl
      obtain ⟨ta, tc, htv, _⟩ := hTn
      have hTn := hvt n hnv' hnl
      rw [htv] at hTn hcn
      have hq0 : 0 < S.notes[n].length := by have := H.l0; omega
      have hq1 : S.notes[n].length ≤ 160 := by have := H.l1; omega
      obtain ⟨g', c', w1, hap, hO', hg', hg'', hk'⟩ := copy_txs w hTn hq0 hq1
      obtain ⟨cN, c1, _⟩ := H.c1
      have b1 := hk'.cell c1 (fun h => h)
      have p1 := Put.set w1 r 1 (.slice (some ⟨g', 0, none⟩) S.notes[n].length c') _ b1
      have f1 : w1.frozen? ⟨r, 1, none⟩ = false := by rw [hk'.frozen H.lt (fun h => h)]; exact H.fr 1
      have hrlt := H.lt
      obtain ⟨W2, H2⟩ : ∃ W2, Hid (w1.setCell ⟨r, 1, none⟩ (.slice (some ⟨g', 0, none⟩) S.notes[n].length c') = W2) := ⟨_, hide rfl⟩
      rw [H2.out] at p1
      have b2 : W2.cell? ⟨r, 2, none⟩ = some (.slice (some ⟨gK, 0, none⟩) S.notes.length nc) := by rw [p1.old _ _ (.inr (by omega))]; exact hk'.cell c2 (fun h => h)
      have f2 : W2.frozen? ⟨r, 2, none⟩ = false := by rw [p1.fr, hk'.frozen H.lt (fun h => h)]; exact H.fr 2
      have p2 := Put.set W2 r 2 (.slice (some ⟨gK, 0, none⟩) (n + 1) nc) _ b2
      obtain ⟨W3, H3⟩ : ∃ W3, Hid (W2.setCell ⟨r, 2, none⟩ (.slice (some ⟨gK, 0, none⟩) (n + 1) nc) = W3) := ⟨_, rfl⟩
      rw [H3.out] at p2
      have K13 : Kp (only r) w1 W3 := p1.kp.then p2.kp
      have K3 : Kp (only r) w W3 := hk'.nThen K13
      have old : ∀ j x, j ≠ 1 → j ≠ 2 → w.cell? ⟨r, j, none⟩ = some x → W3.cell? ⟨r, j, none⟩ = some x := fun j x h1 h2 hx => by
        rw [p2.old _ _ (.inr h2), p1.old _ _ (.inr h1)]
        exact hk'.cell hx (fun h => h)
      have hncap : n + 1 ≤ nc := by
        rcases hOn.2 with ⟨h, _⟩ | ⟨_, _, _, h, _, _, h2, _⟩
        · cases h
        · injection h with _ _ h3
          omega
      have HFIN : Hid (Rw W3 r g' (fun k => G k ∨ w.heap.size ≤ k) { S with now := S.notes[n], notes := S.notes.take (n + 1) }) := by
        have hgr : g' ≠ r := by omega
        refine ⟨⟨c', by rw [p2.old _ _ (.inr (by omega))]; exact p1.same, Ow.mono (hO'.kept K13 (fun k hk e => by have hk2 : g' = k := Option.some.inj hk; have e' : k = r := e; omega)) (Nat.zero_le _)⟩,
          ⟨.slice (some ⟨gK, 0, none⟩) (n + 1) nc, vs.take (n + 1), p2.same, ?_, ?_, ?_, ?_, bv, old 0 _ (by omega) (by omega) hb0, (hbT.mono (fun k hk h => ⟨.inl h.1, h.2.1, by omega, h.2.2.2⟩)).kept K3 (fun k h e => h.2.1 e)⟩, old 3 _ (by omega) (by omega) H.c3, fun j => by rw [p2.fr, p1.fr, hk'.frozen H.lt (fun h => h)]; exact H.fr j, ⟨.inr hg', hgr⟩, hq0, hq1, hnt.2, hnt.1.symm, fun q hq => H.nt q (List.mem_of_mem_take hq)⟩
        · exact ((Ow.takeN hOn hvl.symm (n + 1) (by omega)).keptN hk').kept K13 (fun k hk e => by have hk2 : gK = k := Option.some.inj hk; have e' : k = r := e; exact (hOb gK rfl).2.1 (by rw [hk2, e']))
        · intro k hk
          have hkk := hOb k hk
          refine ⟨.inl hkk.1, hkk.2.1, ?_⟩
          have : gK < w.heap.size := (hOn.lt gK rfl).2
          have hk2 : gK = k := Option.some.inj hk
          omega
        · show (vs.take (n + 1)).length = (S.notes.take (n + 1)).length
          rw [List.length_take, List.length_take, hvl]
        · intro i h h'
          have h1 : i < vs.length := by rw [List.length_take] at h; omega
          have h2 : i < S.notes.length := by omega
          have q1 : (vs.take (n + 1))[i] = vs[i] := List.getElem_take
          have q2 : (S.notes.take (n + 1))[i]'(by rw [List.length_take] at h ⊢; omega) = S.notes[i] := List.getElem_take
          have := ((hvt i h1 h2).mono (T := fun k => (G k ∨ w.heap.size ≤ k) ∧ k ≠ r ∧ k ≠ g' ∧ (Value.slice (some ⟨gK, 0, none⟩) (n + 1) nc).ownBlock ≠ some k) (fun k hk h => ⟨.inl h.1, h.2.1, by omega, h.2.2.2⟩)).kept K3 (fun k h e => h.2.1 e)
          rw [q1]
          show Txs _ _ _ ((S.notes.take (n + 1))[i]'(by rw [List.length_take] at h ⊢; omega))
          rw [q2]
          exact this
      have HK3 := hide K3
      have hni : (n : Int) < (S.notes.length : Int) := by omega
      have hn0 : ¬ (n : Int) < 0 := by omega
      have hn1 : ¬ (S.notes.length : Int) ≤ (n : Int) := by omega
      have hn1000 : n ≤ 1000 := by omega
      obtain ⟨ql, HQL⟩ : ∃ ql, Hid (S.notes[n].length = ql) := ⟨_, hide rfl⟩
      rw [HQL.out] at hcn hap H2
      obtain ⟨nl, HNL⟩ : ∃ nl, Hid (S.notes.length = nl) := ⟨_, rfl⟩
      rw [HNL.out] at c2 b2 hni hn1
      clear H hOn hOb hvt hbT hnk hTn hO' K13 K3 old p1 p2 hk' hz e1 e2 htv hov
      go_enter Tryz.func41, Tryz.ntmps41
      go_upto_region 6 with (first
        | (at_builtin; refine rwpList_app_at rfl (.const (.slice none 0 0)) (.tmp 27) 43 43 rfl _ _ rfl rfl hap ?_)
        | fail)
      rw [H2.out]
      go_wp2
      go_ret
      rw [H3.out]
      exact ⟨rfl, ⟨g', HFIN.out⟩, HK3.out⟩
    · have e1 : S.backE z = 7 := by unfold Sw.backE; rw [hov, if_neg hz]; rfl
      have e2 : S.back z = S := by unfold Sw.back; rw [e1]; rfl
      rw [e1, e2]
      subst hnv
      obtain ⟨nl, HNL⟩ : ∃ nl, Hid (S.notes.length = nl) := ⟨_, rfl⟩
      rw [HNL.out] at c2 hz
      clear H hOn hOb hvt hbT hnk
      by_cases h0 : z < 0
      · clear hz
        go_enter Tryz.func41, Tryz.ntmps41
        go_wp2
        go_ret
        exact ⟨rfl, ⟨gN, HW.out⟩, Kp.refl _ _⟩
      · have h1 : (nl : Int) ≤ z := by omega
        clear hz
        go_enter Tryz.func41, Tryz.ntmps41
        go_wp2
        go_ret
        exact ⟨rfl, ⟨gN, HW.out⟩, Kp.refl _ _⟩

end Go.Proofs.YtmnedhlgplkfhaaGreat

namespace Go.Proofs.YtmnedhlgplkfhaaGreat
open Go.RowKit
set_option linter.unusedVariables false

theorem infoSs : (Tryz.prog.info? 43).map (fun i => (i.zero, i.size, i.bytes)) = some (some (.slice none 0 0), 1, 24) := by kernel_rfl
set_option maxRecDepth 100000 in
set_option maxHeartbeats 1600000 in
theorem rsave_any (r gN : Nat) (G : Nat → Prop) (S : Sw) (w : World) (H : Rw w r gN G S) (hm : S.notes.length ≤ 1000) :
    Calls Tryz.prog 40 #[.pointer (some ⟨r, 0, none⟩)] w fun e w' => e = .returned (.int .i64 S.saveN) ∧ Rw w' r gN (fun k => G k ∨ w.heap.size ≤ k) S.save ∧ Kp (fun k => k = r ∨ G k) w w' := by
  have c3 := H.c3
  have HW : Hid (Rw w r gN (fun k => G k ∨ w.heap.size ≤ k) S) := by
    obtain ⟨u, us, d1, d2, d3, d4, d5, v, a1, a2⟩ := H.c2
    exact ⟨H.c1, ⟨u, us, d1, d2, fun k hk => ⟨.inl (d3 k hk).1, (d3 k hk).2⟩, d4, fun i h h' => (d5 i h h').mono (fun k _ h => ⟨.inl h.1, h.2⟩), v, a1, a2.mono (fun k _ h => ⟨.inl h.1, h.2⟩)⟩, H.c3, H.fr, ⟨.inl H.gg.1, H.gg.2⟩, H.l0, H.l1, H.sz, H.bl, H.nt⟩
  cases hov : S.over with
  | true =>
    have e1 : S.saveN = 0 := by unfold Sw.saveN; rw [hov]; rfl
    have e2 : S.save = S := by unfold Sw.save; rw [hov]; rfl
    rw [e1, e2]
    rw [hov] at c3
    clear H hov
    go_enter Tryz.func40, Tryz.ntmps40
    go_wp2
    go_ret
    exact ⟨rfl, HW.out, Kp.refl _ _⟩
  | false =>
    have e1 : S.saveN = (S.notes.length : Int) := by unfold Sw.saveN; rw [hov]; rfl
    have e2 : S.save = { S with notes := S.notes ++ [S.now] } := by unfold Sw.save; rw [hov]; rfl
    rw [e1, e2]
    rw [hov] at c3
    obtain ⟨nv, vs, c2, hOn, hOb, hvl, hvt, bv, hb0, hbT⟩ := H.c2
    obtain ⟨cN, c1, hO⟩ := H.c1
    have hrlt := H.lt
    have hTd : Txs (fun _ => True) w.drew (.slice (some ⟨gN, 0, none⟩) S.now.length cN) S.now := (hO.txs.mono (fun _ _ _ => trivial)).kept (Kp.drew none' w) (fun _ _ h => h)
    obtain ⟨g', c', w1, hap1, hO', hg', hg'', hk'⟩ := copy_txs w.drew hTd H.l0 H.l1
    have hg1 : w.heap.size ≤ g' := hg'
    have ka := Kp.alloc none' w1 (.cells #[.slice (some ⟨g', 0, none⟩) S.now.length c'] 43)
    have kwa : Kp none' w (w1.alloc (.cells #[.slice (some ⟨g', 0, none⟩) S.now.length c'] 43)) := ((Kp.drew none' w).then hk').then ka
    have hsrc := src_cell w1 70 43 Tryz.underlying70 (.slice (some ⟨g', 0, none⟩) S.now.length c') rfl w1.heap.size rfl
    obtain ⟨v2, w2, hap2, hO2, hgr2, hv2⟩ := app_own (fun x : Value => x) 70 43 70 _ 24 Tryz.underlying70 infoSs (by rfl) (by omega) (w1.alloc (.cells #[.slice (some ⟨g', 0, none⟩) S.now.length c'] 43)) 0 nv vs (.slice (some ⟨w1.heap.size, 0, none⟩) 1 1) [.slice (some ⟨g', 0, none⟩) S.now.length c'] (hOn.keptN kwa) hsrc (Nat.zero_le _) (by simp only [List.length_cons, List.length_nil]; omega)
    obtain ⟨na, nc, hnv, _⟩ := hOn.open
    rw [hvl] at hnv
    obtain ⟨na2, nc2, hv2e, _⟩ := hO2.open
    rw [List.length_append, hvl, List.length_cons, List.length_nil] at hv2e
    have K2 : Kp (fun k => nv.ownBlock = some k) w w2 := (kwa.mono (fun _ _ h => h.elim)).then (Kp.ofGrown hgr2 (fun k he _ => he))
    have hrn : ¬ nv.ownBlock = some r := fun h => (hOb r h).2.1 rfl
    have b2 := K2.cell c2 hrn
    have f2 : w2.frozen? ⟨r, 2, none⟩ = false := by rw [K2.frozen H.lt hrn]; exact H.fr 2
    have p3 := Put.set w2 r 2 v2 _ b2
    have HFIN : Hid (Rw (w2.setCell ⟨r, 2, none⟩ v2) r gN (fun k => G k ∨ w.heap.size ≤ k) { S with notes := S.notes ++ [S.now] } ∧ Kp (fun k => k = r ∨ G k) w (w2.setCell ⟨r, 2, none⟩ v2)) := by
      have hgr := H.gg
      have K23 := p3.kp
      have KF : Kp (fun k => k = r ∨ nv.ownBlock = some k) w (w2.setCell ⟨r, 2, none⟩ v2) := (K2.mono (fun k _ h => .inr h)).then (K23.mono (fun k _ e => .inl e))
      have old : ∀ j x, j ≠ 2 → w.cell? ⟨r, j, none⟩ = some x → (w2.setCell ⟨r, 2, none⟩ v2).cell? ⟨r, j, none⟩ = some x := fun j x h2 hx => by
        rw [p3.old _ _ (.inr h2)]
        exact K2.cell hx hrn
      have hsz1 : w.heap.size ≤ w1.heap.size := hk'.size
      have hg1l : g' < w1.heap.size := hg''
      have hsa : (w1.alloc (.cells #[.slice (some ⟨g', 0, none⟩) S.now.length c'] 43)).heap.size = w1.heap.size + 1 := by simp
      have hob2 : ∀ k, v2.ownBlock = some k → nv.ownBlock = some k ∨ (w.heap.size ≤ k ∧ k ≠ g') := fun k hk => by
        rcases hv2 with e | e
        · exact .inl (by rw [← e]; exact hk)
        · rw [e, hsa] at hk
          have : w1.heap.size + 1 = k := Option.some.inj hk
          exact .inr ⟨by omega, by omega⟩
      have hgn : gN < w.heap.size := (hO.lt gN rfl).2
      have hob3 : ∀ k, k < w.heap.size → nv.ownBlock ≠ some k → v2.ownBlock ≠ some k := fun k hk h1 h2 => by
        rcases hob2 k h2 with e | e
        · exact h1 e
        · omega
      have hngn : nv.ownBlock ≠ some gN := fun e => (hOb gN e).2.2 rfl
      have tx : ∀ {v : Value} {l : List ByteArray}, Txs (fun k => G k ∧ k ≠ r ∧ k ≠ gN ∧ nv.ownBlock ≠ some k) w v l → Txs (fun k => (G k ∨ w.heap.size ≤ k) ∧ k ≠ r ∧ k ≠ gN ∧ v2.ownBlock ≠ some k) (w2.setCell ⟨r, 2, none⟩ v2) v l := fun {v l} h => by
        have h1 : Txs (fun k => (G k ∨ w.heap.size ≤ k) ∧ k ≠ r ∧ k ≠ gN ∧ v2.ownBlock ≠ some k ∧ nv.ownBlock ≠ some k) w v l := h.mono (fun k hk q => ⟨.inl q.1, q.2.1, q.2.2.1, hob3 k hk q.2.2.2, q.2.2.2⟩)
        exact (h1.kept KF (fun k q e => by
          rcases e with e | e
          · exact q.2.1 e
          · exact q.2.2.2.2 e)).mono (fun k _ q => ⟨q.1, q.2.1, q.2.2.1, q.2.2.2.1⟩)
      have hnew : Txs (fun k => (G k ∨ w.heap.size ≤ k) ∧ k ≠ r ∧ k ≠ gN ∧ v2.ownBlock ≠ some k) (w2.setCell ⟨r, 2, none⟩ v2) (.slice (some ⟨g', 0, none⟩) S.now.length c') S.now := by
        have k2' : Kp (fun k => k = r ∨ nv.ownBlock = some k) w1 (w2.setCell ⟨r, 2, none⟩ v2) := ((ka.mono (fun _ _ h => h.elim)).then (Kp.ofGrown hgr2 (fun k he _ => .inr he))).then (K23.mono (fun k _ e => .inl e))
        obtain ⟨a', c'', he, q1, q2, q3⟩ := hO'.txs
        cases he
        have h1 : Txs (fun k => k = g') w1 (.slice (some ⟨g', 0, none⟩) S.now.length c') S.now := by
          refine ⟨some ⟨g', 0, none⟩, c', rfl, q1, q2, fun i hi => ?_⟩
          obtain ⟨b, o, he, qb, ql, qc⟩ := q3 i hi
          cases he
          exact ⟨g', 0, rfl, rfl, ql, qc⟩
        have hng : ¬ nv.ownBlock = some g' := fun e => by
          have := (hOn.lt g' e).2
          omega
        refine (h1.kept k2' (fun k q e => by
          subst q
          rcases e with e | e
          · omega
          · exact hng e)).mono (fun k _ q => by
            subst q
            refine ⟨.inr hg1, by omega, by omega, fun e => ?_⟩
            rcases hob2 _ e with e | e
            · exact hng e
            · exact e.2 rfl)
      refine ⟨⟨⟨cN, old 1 _ (by omega) c1, hO.kept KF (fun k hk e => ?_)⟩, ⟨v2, vs ++ [.slice (some ⟨g', 0, none⟩) S.now.length c'], p3.same, hO2.kept K23 (fun k hk e => ?_), fun k hk => ?_, ?_, fun i h h' => ?_, bv, old 0 _ (by omega) hb0, tx hbT⟩, old 3 _ (by omega) H.c3, fun j => by rw [p3.fr, K2.frozen H.lt hrn]; exact H.fr j, ⟨.inl hgr.1, hgr.2⟩, H.l0, H.l1, H.sz, H.bl, fun q hq => ?_⟩, KF.mono (fun k _ e => ?_)⟩
      · have hk2 : gN = k := Option.some.inj hk
        subst hk2
        rcases e with e | e
        · exact hgr.2 e
        · exact hngn e
      · have e' : k = r := e
        subst e'
        rcases hob2 _ hk with q | q
        · exact hrn q
        · omega
      · rcases hob2 k hk with q | q
        · exact ⟨.inl (hOb k q).1, (hOb k q).2⟩
        · exact ⟨.inr q.1, by omega, by omega⟩
      · show (vs ++ [_]).length = (S.notes ++ [S.now]).length
        rw [List.length_append, List.length_append, hvl]
        rfl
      · have hi : i < vs.length + 1 := by simpa using h
        by_cases hlt : i < vs.length
        · have q1 : (vs ++ [Value.slice (some ⟨g', 0, none⟩) S.now.length c'])[i] = vs[i] := List.getElem_append_left hlt
          have q2 : (S.notes ++ [S.now])[i]'(by simpa using h') = S.notes[i]'(by omega) := List.getElem_append_left (by omega)
          rw [q1]
          show Txs _ _ _ ((S.notes ++ [S.now])[i]'(by simpa using h'))
          rw [q2]
          exact tx (hvt i hlt (by omega))
        · have hie : i = vs.length := by omega
          subst hie
          have q1 : (vs ++ [Value.slice (some ⟨g', 0, none⟩) S.now.length c'])[vs.length] = Value.slice (some ⟨g', 0, none⟩) S.now.length c' := by simp
          have q2 : (S.notes ++ [S.now])[vs.length]'(by simpa using h') = S.now := by simp [hvl]
          rw [q1]
          show Txs _ _ _ ((S.notes ++ [S.now])[vs.length]'(by simpa using h'))
          rw [q2]
          exact hnew
      · rcases List.mem_append.1 hq with q1 | q1
        · exact H.nt q q1
        · have : q = S.now := by simpa using q1
          subst this
          exact ⟨H.bl.symm, H.sz⟩
      · rcases e with e | e
        · exact .inl e
        · exact .inr (hOb k e).1
    have c1d : w.drew.cell? ⟨r, 1, none⟩ = some (.slice (some ⟨gN, 0, none⟩) S.now.length cN) := c1
    have c2d : w.drew.cell? ⟨r, 2, none⟩ = some nv := c2
    have c21 := hk'.cell c2d (fun h => h)
    have c2a := ka.cell c21 (fun h => h)
    subst hnv
    subst hv2e
    have hb3 := p3.same
    have HNL2 : Hid ((S.notes.length : Int) + 1 - 1 = (S.notes.length : Int)) := by show _ = _; omega
    obtain ⟨nl, HNL⟩ : ∃ nl, Hid (S.notes.length = nl) := ⟨_, rfl⟩
    obtain ⟨ln, HLN⟩ : ∃ ln, Hid (S.now.length = ln) := ⟨_, rfl⟩
    have hFIN := HFIN
    try rw [Nat.zero_add] at hFIN hap2 hb3
    rw [HNL.out] at hFIN
    rw [HNL.out] at hap2
    rw [HNL.out] at hb3
    rw [HNL.out] at b2
    rw [HNL.out] at c2 c2d c21 c2a hm
    rw [HLN.out] at hap1 hap2 c1d c2a
    rw [HNL.out]
    clear HFIN HW hO hOn hOb hvl hvt hbT hb0 hTd hO' hO2 hgr2 hv2 K2 hrn p3 hsrc kwa ka hk' H e1 e2 hov
    go_enter Tryz.func40, Tryz.ntmps40
    go_upto_region 3 with fail
    go_region_law (first
      | (refine rpstep_app_at (by rfl) (.const (.slice none 0 0)) (.tmp 15) 43 43 (by rfl) _ _ (by rfl) (by rfl) hap1 ?_)
      | (refine rpstep_app_at (by rfl) (.tmp 11) (.tmp 17) 70 70 (by rfl) _ _ (by rfl) (by rfl) hap2 ?_)
      | fail)
    all_goals (
      go_wp2
      go_ret
      exact ⟨rfl, hFIN.out.1, hFIN.out.2⟩)

end Go.Proofs.YtmnedhlgplkfhaaGreat

namespace Go.Proofs.YtmnedhlgplkfhaaGreat
open Go.RowKit
set_option linter.unusedVariables false

/-- Which of the first k pages are changed. -/
def chgK (b l : List ByteArray) (k : Nat) : List Int := ((List.range k).filter (fun i => isU l i && decide (l.getD i ⟨#[]⟩ ≠ b.getD i ⟨#[]⟩))).map (fun i : Nat => (i : Int))
theorem chgK_succ (b l : List ByteArray) (k : Nat) : chgK b l (k + 1) = chgK b l k ++ (if (isU l k && decide (l.getD k ⟨#[]⟩ ≠ b.getD k ⟨#[]⟩)) = true then [(k : Int)] else []) := by
  unfold chgK
  rw [List.range_succ, List.filter_append, List.map_append]
  congr 1
  by_cases h : (isU l k && decide (l.getD k ⟨#[]⟩ ≠ b.getD k ⟨#[]⟩)) = true
  · rw [if_pos h]
    simp only [List.filter_cons, h, if_true, List.filter_nil, List.map_cons, List.map_nil]
  · rw [if_neg h]
    have h' : (isU l k && decide (l.getD k ⟨#[]⟩ ≠ b.getD k ⟨#[]⟩)) = false := by simpa using h
    simp only [List.filter_cons, h', if_false, List.filter_nil, List.map_nil, Bool.false_eq_true]
theorem chgK_len (b l : List ByteArray) (k : Nat) : (chgK b l k).length ≤ k := by
  unfold chgK
  rw [List.length_map]
  exact Nat.le_trans (List.length_filter_le _ _) (by simp)
theorem list_beq_ne {x y : ByteArray} (h : x ≠ y) : (x.toList == y.toList) = false := by
  cases hb : (x.toList == y.toList) with
  | false => rfl
  | true => exact absurd (bytes_eq (eq_of_beq hb)) h
set_option maxRecDepth 100000 in
set_option maxHeartbeats 1600000 in
theorem rchanged_any (r gN : Nat) (G : Nat → Prop) (S : Sw) (w : World) (H : Rw w r gN G S) :
    Calls Tryz.prog 18 #[.pointer (some ⟨r, 0, none⟩)] w fun e w' => ∃ v, e = .returned v ∧ Ow (Value.int .i64) 3 w' w.heap.size v (if S.over then [] else chgK S.base S.now S.now.length) ∧ Kp none' w w' := by
  have c3 := H.c3
  have hl1 := H.l1
  have hl0 := H.l0
  have hbl := H.bl
  obtain ⟨cN, c1, hO⟩ := H.c1
  obtain ⟨nv, vs, _, _, _, _, _, bv, hb0, hbT⟩ := H.c2
  obtain ⟨ba, bc, rfl, _, _, hbc⟩ := hbT
  obtain ⟨ln, HL⟩ : ∃ ln, Hid (S.now.length = ln) := ⟨_, rfl⟩
  rw [hbl] at hb0
  rw [HL.out] at c1 hl0 hl1 hb0
  cases hov : S.over with
  | true =>
    rw [hov] at c3
    have hli : (0 : Int) < (ln : Int) := by omega
    clear H hO hbc hov
    go_enter Tryz.func18, Tryz.ntmps18
    go_wp2
    go_loopw [3, 4] (fun u t wr => w = wr ∧ u = .slice none 0 0 ∧ t = .int .i64 0) (fun _ _ _ => 0)
    case atStart => exact ⟨rfl, rfl, rfl⟩
    case round =>
      obtain ⟨rfl, rfl, rfl⟩ := hrel
      go_wp2
      go_ret
      exact ⟨_, rfl, Ow.nil _ _ _ _, Kp.refl _ _⟩
  | false =>
    rw [hov] at c3
    have HH := hide H
    have HBC := hide hbc
    clear H hO hbc hov
    simp only [Bool.false_eq_true, if_false]
    rw [HL.out]
    obtain ⟨i0, hi, hz0, hz1, hz2⟩ := info_parts infoI
    go_enter Tryz.func18, Tryz.ntmps18
    go_wp2
    go_loopw [3, 4] (fun u t wr => ∃ k : Nat, k ≤ ln ∧ t = .int .i64 k ∧ Ow (Value.int .i64) 3 wr w.heap.size u (chgK S.base S.now k) ∧ Kp none' w wr) (fun _ t _ => ln - (intOf t).toNat)
    case atStart => exact ⟨0, Nat.zero_le _, rfl, (show Ow _ _ _ _ _ [] from Ow.nil _ _ _ _), Kp.refl _ _⟩
    case round =>
      obtain ⟨k, hk, rfl, hOk, hK⟩ := hrel
      have e1 := hK.cell c1 (fun h => h)
      have e0 := hK.cell hb0 (fun h => h)
      have e3 := hK.cell c3 (fun h => h)
      by_cases hlt : k < ln
      · have hki : (k : Int) < (ln : Int) := by omega
        have hkn : k < S.now.length := by rw [HL.out]; exact hlt
        have hkb : k < S.base.length := by rw [hbl]; exact hkn
        have hR := HH.out.keptN hK
        have hiu : ∀ n, Calls Tryz.prog 45 #[.pointer (some ⟨r, 0, none⟩), .int .i64 k] (wr.drewN n) fun e w' => e = .returned (.bool (isU S.now k)) ∧ w' = wr.drewN n := fun n => risUsed_any r gN k G S (wr.drewN n) (hR.keptN (Kp.drewN none' wr n)) (by omega)
        have d1 := hR.nowAt k hkn
        obtain ⟨b, off, rfl, hbG, _, hbk⟩ := HBC.out k hkb
        have d0 := hK.cell hbk (fun h => h)
        have HSU := hide (chgK_succ S.base S.now k)
        have hyb : S.base.getD k ⟨#[]⟩ = S.base[k] := by rw [List.getD_eq_getElem?_getD, List.getElem?_eq_getElem hkb]; rfl
        rw [hyb] at HSU
        obtain ⟨Y, HY⟩ : ∃ Y, Hid (S.base[k] = Y) := ⟨_, hide rfl⟩
        obtain ⟨X, HX⟩ : ∃ X, Hid (S.now.getD k ⟨#[]⟩ = X) := ⟨_, rfl⟩
        rw [HY.out] at d0 HSU
        rw [HX.out] at d1 HSU
        obtain ⟨U, HU⟩ : ∃ U, Hid (isU S.now k = U) := ⟨_, rfl⟩
        rw [HU.out] at hiu HSU
        have hlen := chgK_len S.base S.now k
        have HOK := hide hOk
        clear hyb hbl hR hbk hOk
        cases U with
        | false =>
          have HS2 : Hid (chgK S.base S.now (k + 1) = chgK S.base S.now k) := by show _ = _; rw [HSU.out]; simp
          go_upto_region 5 with fail
          go_quiet ((go_at_call 45; exact Calls.quiet_of_same (hiu _)))
          go_wp2
          go_roundw
          case rel => exact ⟨k + 1, by omega, by go_num, by rw [HS2.out]; exact HOK.out.keptN (Kp.drewN _ _ _), hK.then (Kp.drewN _ _ _)⟩
          case measure => simp [intOf]; omega
        | true =>
          by_cases hxy : X = Y
          · subst hxy
            have HS2 : Hid (chgK S.base S.now (k + 1) = chgK S.base S.now k) := by show _ = _; rw [HSU.out]; simp
            have hxx : (X.toList == X.toList) = true := by simp
            go_upto_region 5 with fail
            go_quiet ((go_at_call 45; exact Calls.quiet_of_same (hiu _)))
            go_wp2
            go_roundw
            case rel => exact ⟨k + 1, by omega, by go_num, by rw [HS2.out]; exact HOK.out.keptN (Kp.drewN _ _ _), hK.then (Kp.drewN _ _ _)⟩
            case measure => simp [intOf]; omega
          · have HS2 : Hid (chgK S.base S.now (k + 1) = chgK S.base S.now k ++ [(k : Int)]) := by show _ = _; rw [HSU.out]; simp [hxy]
            have hxx := list_beq_ne hxy
            go_upto_region 5 with fail
            go_quiet ((go_at_call 45; exact Calls.quiet_of_same (hiu _)))
            have kal := Kp.alloc none' (wr.drewN nq) (.cells #[.int .i64 (k : Int)] 3)
            have hOd := (HOK.out.keptN (Kp.drewN none' wr nq)).keptN kal
            have hsrc := src_cell (wr.drewN nq) 41 3 Tryz.underlying41 (.int .i64 (k : Int)) rfl (wr.drewN nq).heap.size rfl
            have hws : w.heap.size ≤ ((wr.drewN nq).alloc (.cells #[.int .i64 (k : Int)] 3)).heap.size := Nat.le_trans hK.size kal.size
            obtain ⟨v4, w4, hap, hO4, hg4, _⟩ := app_own (Value.int .i64) 41 3 41 _ 8 Tryz.underlying41 infoI (by rfl) (by omega) ((wr.drewN nq).alloc (.cells #[.int .i64 (k : Int)] 3)) w.heap.size u3 (chgK S.base S.now k) (.slice (some ⟨(wr.drewN nq).heap.size, 0, none⟩) 1 1) [(k : Int)] hOd hsrc hws (by simp only [List.length_cons, List.length_nil]; omega)
            have HK4 : Hid (Kp none' w w4) := (((hK.then (Kp.drewN _ _ nq)).then kal).trans (Kp.ofGrown (S := fun k => u3.ownBlock = some k) hg4 (fun k he _ => he)) (fun _ _ h => h) (fun k hk he => by have := (hOd.lt k he).1; exact absurd hk (by omega)))
            have HO4 := hide hO4
            clear hO4 hg4 hOd
            go_wp2_with (first
              | (at_builtin; refine rwpList_app_at rfl (.tmp 41) (.tmp 43) 41 41 rfl _ _ rfl rfl hap ?_)
              | fail)
            go_roundw
            case rel => exact ⟨k + 1, by omega, by go_num, by rw [HS2.out]; exact HO4.out, HK4.out⟩
            case measure => simp [intOf]; omega
      · have hkl : ln = k := by omega
        subst hkl
        go_wp2
        go_ret
        exact ⟨_, rfl, hOk, hK⟩

end Go.Proofs.YtmnedhlgplkfhaaGreat

namespace Go.Proofs.YtmnedhlgplkfhaaGreat
open Go.RowKit
set_option linter.unusedVariables false

/-- The pages behind the first changes. -/
def putK (now Q : List ByteArray) (l : List Nat) : List ByteArray := l.foldl (fun q i => q.set i (now.getD i ⟨#[]⟩)) Q
theorem putK_len (now : List ByteArray) (l : List Nat) : ∀ Q, (putK now Q l).length = Q.length := by
  induction l with
  | nil => intro Q; rfl
  | cons c l ih => intro Q; show (putK now _ l).length = _; rw [ih, List.length_set]
theorem putK_take (now Q : List ByteArray) (l : List Nat) (k : Nat) (h : k < l.length) : putK now Q (l.take (k + 1)) = (putK now Q (l.take k)).set l[k] (now.getD l[k] ⟨#[]⟩) := by
  rw [List.take_succ_eq_append_getElem h]
  unfold putK
  rw [List.foldl_append]
  rfl
theorem chgs_lt (b l : List ByteArray) (k : Nat) (h : k < (chgs b l).length) : (chgs b l)[k] < l.length := by
  have h1 := List.getElem_mem h
  unfold chgs at h1
  exact List.mem_range.1 (List.mem_filter.1 h1).1
theorem Rw.setOver {w w' : World} {r gN : Nat} {G : Nat → Prop} {S : Sw} (H : Rw w r gN G S) (hp : Put w w' r 3 (.bool true)) : Rw w' r gN G { S with over := true } := by
  obtain ⟨cN, b1, b2⟩ := H.c1
  obtain ⟨u, us, d1, d2, d3, d4, d5, v, a1, a2⟩ := H.c2
  have old : ∀ j x, j ≠ 3 → w.cell? ⟨r, j, none⟩ = some x → w'.cell? ⟨r, j, none⟩ = some x := fun j x h hx => by rw [hp.old _ _ (.inr h)]; exact hx
  exact ⟨⟨cN, old 1 _ (by omega) b1, b2.kept hp.kp (fun k hk e => by cases hk; exact H.gg.2 e)⟩, ⟨u, us, old 2 _ (by omega) d1, d2.kept hp.kp (fun k hk e => (d3 k hk).2.1 e), d3, d4, fun i h h' => (d5 i h h').kept hp.kp (fun k hk e => hk.2.1 e), v, old 0 _ (by omega) a1, a2.kept hp.kp (fun k hk e => hk.2.1 e)⟩,
    hp.same, fun j => by rw [hp.fr]; exact H.fr j, H.gg, H.l0, H.l1, H.sz, H.bl, H.nt⟩
set_option maxRecDepth 100000 in
set_option maxHeartbeats 1600000 in
theorem rcommit_any (r gN rp : Nat) (G Gp : Nat → Prop) (S : Sw) (Q : List ByteArray) (w : World) (H : Rw w r gN G S) (hP : Pgl Gp w rp Q) (hQ : Q.length = S.now.length) :
    Calls Tryz.prog 42 #[.pointer (some ⟨r, 0, none⟩), .pointer (some ⟨rp, 0, none⟩)] w fun e w' => ∃ rp', e = .returned (.tuple #[.pointer (some ⟨rp', 0, none⟩), .int .i64 S.commitE]) ∧ Pgl (fun k => Gp k ∨ w.heap.size ≤ k) w' rp' (S.pages Q) ∧ Rw w' r gN G S.commit ∧ Kp (only r) w w' := by
  have c3 := H.c3
  cases hov : S.over with
  | true =>
    have e1 : S.commitE = 13 := by unfold Sw.commitE; rw [hov]; rfl
    have e2 : S.pages Q = Q := by unfold Sw.pages; rw [e1]; rfl
    have e3 : S.commit = S := by unfold Sw.commit; rw [e1]; rfl
    rw [e1, e2, e3]
    rw [hov] at c3
    have HP := hide hP
    have HH := hide H
    clear H hP hov e1 e2 e3
    go_enter Tryz.func42, Tryz.ntmps42
    go_wp2
    go_ret2
    exact ⟨rp, rfl, HP.out.mono (fun _ _ h => .inl h), HH.out, Kp.refl _ _⟩
  | false =>
    rw [hov] at c3
    have hch : S.changed = chgs S.base S.now := by unfold Sw.changed; rw [hov]; rfl
    have hcl := rchanged_any r gN G S w H
    rw [hov] at hcl
    simp only [Bool.false_eq_true, if_false] at hcl
    have hmap : chgK S.base S.now S.now.length = (chgs S.base S.now).map (fun i : Nat => (i : Int)) := rfl
    rw [hmap] at hcl
    have hlt := chgs_lt S.base S.now
    have hE : S.commitE = if 31 < (chgs S.base S.now).length then 3 else 0 := by unfold Sw.commitE; rw [hov, hch]; rfl
    have hpg : S.commitE = 0 → S.pages Q = putK S.now Q (chgs S.base S.now) := fun h => by unfold Sw.pages; rw [if_pos h, hch]; rfl
    obtain ⟨L, HL⟩ : ∃ L, Hid (chgs S.base S.now = L) := ⟨_, rfl⟩
    rw [HL.out] at hcl hE hpg hlt
    clear hmap hch
    by_cases h31 : 31 < L.length
    · rw [if_pos h31] at hE
      have e2 : S.pages Q = Q := by unfold Sw.pages; rw [hE]; rfl
      have e3 : S.commit = S := by unfold Sw.commit; rw [hE]; rfl
      rw [hE, e2, e3]
      have HP := hide hP
      have HH := hide H
      have h31i : (31 : Int) < (L.length : Int) := by omega
      clear H hP hov hE e2 e3 hpg hlt
      go_enter Tryz.func42, Tryz.ntmps42
      go_wp2_with (go_at_call 18; refine hcl.mono ?_; rintro e w1 ⟨v, rfl, hO, hk⟩; obtain ⟨va, vc, rfl, _⟩ := hO.open; rw [List.length_map])
      go_ret2
      exact ⟨rp, rfl, (HP.out.keptN hk).mono (fun _ _ h => .inl h), HH.out.keptN hk, hk.mono (fun _ _ h => h.elim)⟩
    · rw [if_neg h31] at hE
      have e3 : S.commit = { S with over := true } := by unfold Sw.commit; rw [hE]; rfl
      rw [hE, hpg hE, e3]
      have h31i : (L.length : Int) ≤ 31 := by omega
      have HP := hide hP
      have HH := hide H
      have hQ0 : 0 < Q.length := by rw [hQ]; exact H.l0
      have hQ1 : Q.length ≤ 160 := by rw [hQ]; exact H.l1
      have HLT : Hid (∀ k (h : k < L.length), L[k] < Q.length) := fun k h => by rw [hQ]; exact hlt k h
      obtain ⟨cN, c1, _⟩ := H.c1
      rw [← hQ] at c1
      clear H hP hov hE e3 hpg hlt
      go_enter Tryz.func42, Tryz.ntmps42
      go_upto_region 4 with (go_at_call 18; refine hcl.mono ?_; rintro e w1 ⟨v, rfl, hO, hk⟩; obtain ⟨va, vc, rfl, hva⟩ := hO.open; rw [List.length_map] at *)
      have HO := hide hO
      have HVA : Hid (∀ k (h : k < L.length), ∃ b, va = some ⟨b, 0, none⟩ ∧ b < w1.heap.size ∧ w1.cell? ⟨b, k, none⟩ = some (.int .i64 (L[k] : Nat))) := fun k h => by
        obtain ⟨b, hb, _, hc⟩ := hva k (by simpa using h)
        refine ⟨b, hb, lt_of_cell hc, ?_⟩
        rw [hc]
        simp
      clear hva hO
      have HR1 := hide (HH.out.keptN hk)
      obtain ⟨lv, q0, hT⟩ := (HP.out.keptN hk).i
      obtain ⟨g1, m1, w2, hap, hO2, hg1B, hg1l, hk2⟩ := copy_txs w1 hT hQ0 hQ1
      obtain ⟨la, lc, hlv, _⟩ := hT
      subst hlv
      have b1 := hk.cell c1 (fun h => h)
      obtain ⟨qn, HQN⟩ : ∃ qn, Hid (Q.length = qn) := ⟨_, rfl⟩
      obtain ⟨nL, HNL⟩ : ∃ nL, Hid (L.length = nL) := ⟨_, rfl⟩
      rw [HQN.out] at q0 hap hO2 b1 hQ0 hQ1
      rw [HNL.out] at h31i
      rw [HNL.out]
      go_upto_region 7 with (at_builtin; refine rwpList_app_at rfl (.const (.slice none 0 0)) (.tmp 23) 43 43 rfl _ _ rfl rfl hap ?_)
      have hka := Kp.alloc none' w2 (.cells #[.slice (some ⟨g1, 0, none⟩) qn m1] 45)
      have hcB : (w2.alloc (.cells #[.slice (some ⟨g1, 0, none⟩) qn m1] 45)).cell? ⟨w2.heap.size, 0, none⟩ = some (.slice (some ⟨g1, 0, none⟩) qn m1) := by rw [cell_of_row _ _ _ _ _ _ (heap_alloc_new w2 _)]; rfl
      obtain ⟨w3, H3⟩ : ∃ w3, Hid (w2.alloc (.cells #[.slice (some ⟨g1, 0, none⟩) qn m1] 45) = w3) := ⟨_, rfl⟩
      rw [H3.out] at hka hcB ⊢
      have hne : w2.heap.size ≠ g1 := by omega
      have hO3 := hO2.keptN hka
      have hkw := hk2.then hka
      have hrB : w1.heap.size ≤ w2.heap.size := hk2.size
      have hww1 : w.heap.size ≤ w1.heap.size := hk.size
      clear hO2 hap q0
      generalize w2.heap.size = rr at *
      go_wp2
      go_loopw [8] (fun t wr => ∃ k : Nat, k ≤ nL ∧ t = .int .i64 k ∧ Ow Value.string 9 wr w1.heap.size (.slice (some ⟨g1, 0, none⟩) qn m1) (putK S.now Q (L.take k)) ∧ wr.cell? ⟨rr, 0, none⟩ = some (.slice (some ⟨g1, 0, none⟩) qn m1) ∧ Kp none' w1 wr) (fun t _ => nL - (intOf t).toNat)
      case atStart => exact ⟨0, Nat.zero_le _, rfl, hO3, hcB, hkw⟩
      case round =>
        obtain ⟨k, hk', rfl, hOr, hcr, hK⟩ := hrel
        clear hO3 hcB hkw
        by_cases hlt : k < nL
        · have hki : (k : Int) < (nL : Int) := by omega
          have hkL : k < L.length := by rw [HNL.out]; exact hlt
          obtain ⟨b, rfl, hbl, hc0⟩ := HVA.out k hkL
          have hqn := HLT.out k hkL
          have hnow := HR1.out.nowAt L[k] (by rw [← hQ]; exact hqn)
          have hqn' : L[k] < (putK S.now Q (L.take k)).length := by rw [putK_len]; exact hqn
          rw [HQN.out] at hqn
          have HTK := hide (putK_take S.now Q L k hkL)
          generalize L[k] = q at *
          generalize S.now.getD q ⟨#[]⟩ = x at *
          have hqi : (q : Int) < (qn : Int) := by omega
          have d0 : wr.drew.cell? ⟨b, k, none⟩ = some (.int .i64 (q : Int)) := hK.cell hc0 (fun h => h)
          have d1 : wr.drew.cell? ⟨r, 1, none⟩ = some (.slice (some ⟨gN, 0, none⟩) qn cN) := hK.cell b1 (fun h => h)
          have d2 : wr.drew.cell? ⟨gN, q, none⟩ = some (.string x) := hK.cell hnow (fun h => h)
          have hbg : b ≠ g1 := by omega
          have hrg : r ≠ g1 := by have := lt_of_cell b1; omega
          have hng : gN ≠ g1 := by have := lt_of_cell hnow; omega
          clear hc0 hnow
          have hcrd : wr.drew.cell? ⟨rr, 0, none⟩ = some (.slice (some ⟨g1, 0, none⟩) qn m1) := hcr
          have hOd := hOr.keptN (Kp.drew none' wr)
          have hcl2 := hOd.cellAt q hqn'
          have q1 := hcl2.1
          have q2 := hcl2.2
          have hst := hOd.stored q x
          rw [← HTK.out] at hst
          have HST := hide hst
          have kS : ∀ W : World, W.cell? ⟨rr, 0, none⟩ = some (.slice (some ⟨g1, 0, none⟩) qn m1) ∧ W.cell? ⟨b, k, none⟩ = some (.int .i64 (q : Int)) ∧ W.cell? ⟨r, 1, none⟩ = some (.slice (some ⟨gN, 0, none⟩) qn cN) ∧ W.cell? ⟨gN, q, none⟩ = some (.string x) →
              (W.setCell ⟨g1, q, none⟩ (.string x)).cell? ⟨rr, 0, none⟩ = some (.slice (some ⟨g1, 0, none⟩) qn m1) ∧ (W.setCell ⟨g1, q, none⟩ (.string x)).cell? ⟨b, k, none⟩ = some (.int .i64 (q : Int)) ∧ (W.setCell ⟨g1, q, none⟩ (.string x)).cell? ⟨r, 1, none⟩ = some (.slice (some ⟨gN, 0, none⟩) qn cN) ∧ (W.setCell ⟨g1, q, none⟩ (.string x)).cell? ⟨gN, q, none⟩ = some (.string x) := fun W h =>
            ⟨(Kp.setCell (S := only g1) W g1 _ _ rfl).cell h.1 hne, (Kp.setCell (S := only g1) W g1 _ _ rfl).cell h.2.1 hbg, (Kp.setCell (S := only g1) W g1 _ _ rfl).cell h.2.2.1 hrg, (Kp.setCell (S := only g1) W g1 _ _ rfl).cell h.2.2.2 hng⟩
          have HC5 := hide (kS _ ⟨hcrd, d0, d1, d2⟩).1
          clear hcl2 hst hOr hOd
          go_upto_region 10 with fail
          go_region_held_law (fun W => W.cell? ⟨rr, 0, none⟩ = some (.slice (some ⟨g1, 0, none⟩) qn m1) ∧ W.cell? ⟨b, k, none⟩ = some (.int .i64 (q : Int)) ∧ W.cell? ⟨r, 1, none⟩ = some (.slice (some ⟨gN, 0, none⟩) qn cN) ∧ W.cell? ⟨gN, q, none⟩ = some (.string x)) (first | assumption | exact ⟨hcrd, d0, d1, d2⟩ | exact kS _ (by assumption) | exact kS _ ⟨hcrd, d0, d1, d2⟩) (fail)
          clear kS q1 q2 d0 d1 d2
          go_wp2
          go_roundw
          case rel => exact ⟨k + 1, by omega, by go_num, HST.out.1, HC5.out, (hK.then (Kp.drew _ _)).trans (Kp.ofGrown HST.out.2 (S := only g1) (fun k he _ => by cases he; rfl)) (fun _ _ h => h) (fun j hj he => absurd hj (by unfold only at he; omega))⟩
          case measure => simp [intOf]; omega
        · obtain rfl : k = nL := by omega
          have hkL : L.take k = L := by rw [← HNL.out, List.take_length]
          rw [hkL] at hOr
          have hRr := HR1.out.keptN hK
          have f3 := hRr.fr 3
          have e3' := hk.cell c3 (fun h => h)
          have e3 := hK.cell e3' (fun h => h)
          have p3 := Put.set wr r 3 (.bool true) _ e3
          have hrlt : r < w.heap.size := HH.out.lt
          have hPf : Pgl (fun j => Gp j ∨ w.heap.size ≤ j) (wr.setCell ⟨r, 3, none⟩ (.bool true)) rr (putK S.now Q L) := by
            have h1 : Pgl (fun j => w1.heap.size ≤ j) wr rr (putK S.now Q L) := ⟨⟨_, hcr, by have := hOr.txs; exact this⟩, hrB⟩
            exact (h1.kept p3.kp (fun k h e => by unfold only at e; omega)).mono (fun k _ h => .inr (Nat.le_trans hww1 h))
          have HPF := hide hPf
          have HRF := hide (hRr.setOver p3)
          have HKF : Hid (Kp (only r) w (wr.setCell ⟨r, 3, none⟩ (.bool true))) := (((hk.then hK).mono (fun _ _ h => h.elim)).then p3.kp)
          clear hPf hRr p3
          go_wp2
          go_ret2
          exact ⟨rr, rfl, HPF.out, HRF.out, HKF.out⟩

end Go.Proofs.YtmnedhlgplkfhaaGreat

namespace Go.Proofs.YtmnedhlgplkfhaaGreat
set_option linter.unusedVariables false

/-- The changes: page by page what is there now. -/
def chgC (now : List ByteArray) (l : List Nat) : List Chg := l.map (fun i : Nat => ⟨(i : Int), now.getD i ⟨#[]⟩⟩)
theorem chgC_len (now : List ByteArray) (l : List Nat) : (chgC now l).length = l.length := by simp [chgC]
theorem chgC_pages (now : List ByteArray) (l : List Nat) : (chgC now l).map Chg.page = l.map (fun i : Nat => (i : Int)) := by simp [chgC, Function.comp_def]
theorem putK_withL (now : List ByteArray) (l : List Nat) : ∀ Q, putK now Q l = withL Q (chgC now l) := by
  induction l with
  | nil => intro Q; rfl
  | cons i l ih =>
    intro Q
    show putK now (Q.set i _) l = withL (Q.set (Int.toNat (i : Int)) _) (chgC now l)
    rw [ih, Int.toNat_natCast]
theorem chgs_mem {b l : List ByteArray} {i : Nat} (h : i ∈ chgs b l) : i < l.length := by
  unfold chgs at h
  exact List.mem_range.1 (List.mem_filter.1 h).1
theorem chgs_nodup (b l : List ByteArray) : (chgs b l).Nodup := by
  unfold chgs
  exact List.Pairwise.filter _ List.nodup_range
theorem chgC_sizes {b now : List ByteArray} (hs : ∀ x ∈ now, x.size = 256) : ∀ c ∈ chgC now (chgs b now), c.data.size = 256 := fun c hc => by
  unfold chgC at hc
  obtain ⟨i, hi, rfl⟩ := List.mem_map.1 hc
  have hl := chgs_mem hi
  show (now.getD i _).size = 256
  rw [List.getD_eq_getElem?_getD, List.getElem?_eq_getElem hl]
  exact hs _ (List.getElem_mem hl)
theorem chgC_i64 {b now : List ByteArray} (hl : now.length ≤ 160) : i64s ((chgC now (chgs b now)).map Chg.page) := by
  rw [chgC_pages]
  intro z hz
  obtain ⟨i, hi, rfl⟩ := List.mem_map.1 hz
  have := chgs_mem hi
  omega
theorem chgC_right (b now : List ByteArray) : rightE now.length (chgC now (chgs b now)) = if 31 < (chgs b now).length then 3 else 0 := by
  unfold rightE
  rw [chgC_len, chgC_pages]
  by_cases h : 31 < (chgs b now).length
  · rw [if_pos h, if_pos h]
  · rw [if_neg h, if_neg h]
    have h1 : allB now.length ((chgs b now).map (fun i : Nat => (i : Int))) = true := by
      unfold allB
      refine List.all_eq_true.2 (fun z hz => ?_)
      obtain ⟨i, hi, rfl⟩ := List.mem_map.1 hz
      have := chgs_mem hi
      unfold hasB
      simp
      omega
    have h2 : ((chgs b now).map (fun i : Nat => (i : Int))).Nodup := List.Pairwise.map _ (fun a b h e => h (by have e' : (a : Int) = (b : Int) := e; omega)) (chgs_nodup b now)
    rw [if_pos h1, if_pos h2]
/-- What is committed. -/
theorem putK_pgF {b now Q : List ByteArray} (hQ : Q.length = now.length) : pgF (putK now Q (chgs b now)) = withC (pgF Q) (chgC now (chgs b now)) := by
  rw [putK_withL]
  refine withL_pgF _ _ (fun c hc => ?_)
  unfold chgC at hc
  obtain ⟨i, hi, rfl⟩ := List.mem_map.1 hc
  have := chgs_mem hi
  exact ⟨by show (0 : Int) ≤ (i : Int); omega, by show (i : Int) < _; omega⟩
theorem putK_sizes {b now Q : List ByteArray} (hs : ∀ x ∈ now, x.size = 256) (hq : ∀ x ∈ Q, x.size = 256) : ∀ x ∈ putK now Q (chgs b now), x.size = 256 := by
  rw [putK_withL]
  exact withL_sizes hq (chgC_sizes hs)

end Go.Proofs.YtmnedhlgplkfhaaGreat
