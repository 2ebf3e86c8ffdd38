/- Contract, over the turned program: text.Write makes a program's text, or answers why it has none, as the chapter says. Conditions: those that the theorem states. -/
import Derived.Test.YthopmlgfklhagaaGreatDoorJTd
namespace Go.Proofs.YthopmlgfklhagaaGreatDoor
open Go.RowKit
set_option linter.unusedVariables false

/-- What Write answers. -/
def wtB (l : List In) : List UInt8 := if wiOk l then textP l else []
theorem joinW_len : ∀ (ws : List (List UInt8)), (∀ w ∈ ws, w.length ≤ 30) → (joinW ws).length ≤ 31 * ws.length
  | [], _ => by simp [joinW]
  | [w], h => by have := h w (by simp); simp only [joinW, List.length_cons, List.length_nil]; omega
  | w :: v :: r, h => by
    have h1 := h w (by simp)
    have h2 := joinW_len (v :: r) (fun x hx => h x (by simp only [List.mem_cons] at hx ⊢; exact .inr hx))
    simp only [joinW, List.length_append, List.length_cons] at h2 ⊢
    omega
theorem joinW_lib : ∀ (ws : List (List UInt8)), Lib.join ws [32] = joinW ws
  | [] => rfl
  | [w] => Lib.join_one w [32]
  | w :: v :: r => by
    have h2 := joinW_lib (v :: r)
    rw [Lib.join_cons] at h2 ⊢
    show w ++ Lib.joinTail [32] (v :: r) = w ++ 32 :: joinW (v :: r)
    rw [← h2]
    simp [Lib.joinTail]
theorem itoa_len (z : Int) (h0 : -9223372036854775808 ≤ z) (h1 : z < 9223372036854775808) : (Lib.itoa z).length ≤ 20 := by
  unfold Lib.itoa
  split
  · have := dec_len z.natAbs (by omega)
    rw [List.length_cons]
    omega
  · have := dec_len z.toNat (by omega)
    omega
theorem name_len (op : Int) : (nameB op).length ≤ 6 := by
  unfold nameB
  split
  · next h =>
    have h1 := of_decide_eq_true h
    have key : ∀ i : Nat, i < 19 → (nmL.getD i []).length ≤ 6 := by decide
    exact key (op.toNat - 1) (by omega)
  · simp
theorem words_len (x : In) (hx : x.wf) (hk : okI x = true) : ∀ w ∈ wordsI x, w.length ≤ 30 := by
  obtain ⟨o1, o2, o3, o4, o5⟩ := okI_parts hk
  have hfl := fit_fl x hk
  have hb : ∀ z, byteOk z = true → (Lib.itoa z).length ≤ 20 := fun z hz => by have := of_decide_eq_true hz; exact itoa_len z (by omega) (by omega)
  intro w hw
  unfold wordsI at hw
  rcases List.mem_cons.1 hw with h1 | h1
  · rw [h1]; have := name_len x.op; omega
  · rcases List.mem_append.1 h1 with h2 | h2
    · unfold opsW at h2
      obtain ⟨z, hz, rfl⟩ := List.mem_map.1 h2
      have hz := List.mem_of_mem_take hz
      have hz : z = x.a ∨ z = x.b ∨ z = x.c := by simpa using hz
      rcases hz with rfl | rfl | rfl
      · have := hb _ (hfl 0); exact Nat.le_trans this (by omega)
      · have := hb _ (hfl 1); exact Nat.le_trans this (by omega)
      · have := hb _ (hfl 2); exact Nat.le_trans this (by omega)
    · split at h2
      · next h =>
        rw [if_pos h] at o5
        obtain ⟨k1, k2⟩ := okC_parts o5
        rw [List.mem_singleton.1 h2]
        unfold valW
        split
        · have := itoa_len x.v.n hx.1.n0 hx.1.n1; omega
        · rw [List.length_cons, hexL_len, Array.length_toList]
          have : x.v.s.data.size = x.v.s.size := rfl
          omega
      · cases h2
theorem line_len (x : In) (hx : x.wf) (hk : okI x = true) : (lineI x).length ≤ 200 := by
  have h1 := joinW_len (wordsI x) (words_len x hx hk)
  have h2 := wordsI_len x
  have h3 := wantW_le x.op
  unfold lineI
  omega
theorem line_pos (x : In) (hk : okI x = true) : 0 < (lineI x).length := by
  rcases Nat.eq_zero_or_pos (lineI x).length with h | h
  · have h1 := words_line x hk
    rw [List.eq_nil_of_length_eq_zero h] at h1
    have h2 : wordsL [] = [] := rfl
    rw [h2] at h1
    unfold wordsI at h1
    cases h1
  · exact h
theorem textP_len : ∀ (l : List In), (∀ x ∈ l, x.wf) → l.all okI = true → (textP l).length ≤ 201 * l.length
  | [], _, _ => by simp [textP]
  | x :: l, hw, hk => by
    rw [List.all_cons, Bool.and_eq_true] at hk
    have h1 := line_len x (hw x (by simp)) hk.1
    have h2 := textP_len l (fun y hy => hw y (by simp [hy])) hk.2
    rw [textP_cons]
    simp only [List.length_append, List.length_cons]
    omega
theorem textP_take (l : List In) (j : Nat) (h : j < l.length) : textP (l.take (j + 1)) = textP (l.take j) ++ lineI l[j] ++ [10] := by
  rw [List.take_succ_eq_append_getElem h, textP_snoc, List.append_assoc]
theorem mk_lists (ws : List (List UInt8)) : (ws.map mkB).map (fun x => x.data.toList) = ws := by
  rw [List.map_map]
  have : ((fun x : ByteArray => x.data.toList) ∘ mkB) = id := by funext l; exact mkB_list l
  rw [this, List.map_id]
theorem Below.grownN {w w' : World} (h : Below w.heap.size w w') : w.grownBy w' none := ⟨h.os, h.tape, h.output, h.size, fun k hk _ => h.block k hk⟩
/-- strings.Join of an instruction's words. -/
theorem join_words (v : Value) (x : In) (base : Nat) (w : World) (hx : x.wf) (hk : okI x = true) (hO : Ow Value.string 9 w base v ((wordsI x).map mkB)) :
    Calls Tryz.prog 17 #[v, .string ⟨#[32]⟩] w fun e w' => e = .returned (.string ⟨(lineI x).toArray⟩) ∧ w.grownBy w' none := by
  have h1 := hO.sl
  obtain ⟨a, c, rfl, hc, _, hcs⟩ := h1
  have hne : 0 < ((wordsI x).map mkB).length := by rw [List.length_map]; unfold wordsI; simp
  obtain ⟨b, off, rfl, hb, _⟩ := hcs 0 hne
  have hcells : ∀ (j : Nat) y, ((wordsI x).map mkB)[j]? = some y → w.cell? ⟨b, off + j, none⟩ = some (.string y) := by
    intro j y hy
    obtain ⟨hj, rfl⟩ := List.getElem?_eq_some_iff.1 hy
    obtain ⟨b', off', e, _, h2⟩ := hcs j hj
    cases e
    exact h2
  have hlen : (Lib.join (((wordsI x).map mkB).map (fun x => x.data.toList)) (⟨#[32]⟩ : ByteArray).data.toList).length ≤ 140737488355328 := by
    rw [mk_lists]
    show (Lib.join (wordsI x) [32]).length ≤ _
    rw [joinW_lib]
    have := line_len x hx hk
    unfold lineI at this
    omega
  have hN : ((wordsI x).map mkB).length ≤ 140737488355328 := by
    have h2 := wordsI_len x
    have h3 := wantW_le x.op
    rw [List.length_map]
    omega
  refine (strings_Join b off c ((wordsI x).map mkB) ⟨#[32]⟩ w hcells hb hN hc hlen).mono ?_
  rintro e w' ⟨rfl, hB⟩
  refine ⟨?_, Below.grownN hB⟩
  rw [mk_lists]
  show Ending.returned (.string ⟨(Lib.join (wordsI x) [32]).toArray⟩) = _
  rw [joinW_lib]
  rfl
theorem src_txt (w : World) (l : List UInt8) : Src Tryz.prog 1 9 (.string ⟨l.toArray⟩) l.length (bcs l) w := by
  have h := Src.ofString (P := Tryz.prog) w Tryz.underlying9 ⟨l.toArray⟩
  have e1 : (⟨l.toArray⟩ : ByteArray).size = l.length := by show l.toArray.size = _; simp
  have e2 : byteCells ⟨l.toArray⟩ = bcs l := by simp [byteCells, bcs]
  rw [e1, e2] at h
  exact h
theorem src_one8 {P : Program} (w : World) (t e : TypeId) (ht : P.underlying t = some (.slice e)) (x : UInt8) (g : Nat) (hg : w.heap.size = g) : Src P 1 t (.slice (some ⟨g, 0, none⟩) 1 1) 1 (bcs [x]) (w.alloc (.cells #[.int .u8 (x.toNat : Int)] e)) :=
  src_cell w t e ht (.int .u8 (x.toNat : Int)) rfl g hg

set_option maxRecDepth 100000 in
set_option maxHeartbeats 1000000 in
theorem twrite_any (v : Value) (l : List In) (w : World) (hT : Ins w v l) (hwf : ∀ x ∈ l, x.wf) (hG : G14 w) :
    Calls Tryz.prog 8 #[v] w fun e w' => e = .returned (.tuple #[.string ⟨(wtB l).toArray⟩, .int .i64 (wiE l)]) ∧ w.grownBy w' none := by
  have Hcw := hide (iwrite_any v l w hT hwf hG.op)
  obtain ⟨a, c, rfl, hc, hm, hL⟩ := hT
  have hlm : l.length ≤ maxLen := Nat.le_trans hc hm
  unfold maxLen at hlm
  have HWE := hide (wiE_ok l)
  obtain ⟨E, HE⟩ : ∃ E, Hid (wiE l = E) := ⟨_, rfl⟩
  rw [HE.out] at Hcw HWE ⊢
  have HG0 := hide hG
  by_cases hE : E = 0
  · have Hok : Hid (wiOk l = true) := HWE.out.1 hE
    have hll : l.length ≤ 64 ∧ Hid (l.all okI = true) := by
      have := Hok.out
      unfold wiOk at this
      rw [Bool.and_eq_true] at this
      exact ⟨of_decide_eq_true this.1, this.2⟩
    obtain ⟨h64, Hall⟩ := hll
    have HW : Hid (wtB l = textP l) := by show _ = _; unfold wtB; rw [Hok.out, if_pos rfl]
    subst hE
    have HL : Hid (∀ i (h : i < l.length), ∃ b off, a = some ⟨b, off, none⟩ ∧ b < w.heap.size ∧ ∀ j u, (In.cells l[i])[j]? = some u → w.cell? ⟨b, off + i * 7 + j, none⟩ = some u) := hL
    have Hm : Hid (c ≤ maxLen) := hm
    clear hL hm HWE hG
    go_enter Tryz.func8, Tryz.ntmps8
    go_wp2_with (go_at_call 16; refine (Hcw.out).mono ?_; rintro e w1 ⟨rfl, hg1⟩)
    go_loopw [6, 19] (fun b i wr => ∃ j : Nat, j ≤ l.length ∧ i = .int .i64 j ∧ Own 5 wr w.heap.size b (textP (l.take j)) ∧ w.grownBy wr none) (fun _ i _ => l.length - (intOf i).toNat)
    case atStart => exact ⟨0, Nat.zero_le _, rfl, by simpa [textP] using Own.nil _ _ _, hg1⟩
    case round =>
      obtain ⟨j, hj, rfl, ho, hg⟩ := hrel
      by_cases hlt : j < l.length
      · obtain ⟨b, off, rfl, hb, hcs⟩ := HL.out j hlt
        have hs := hg.block b hb (by simp)
        have hcs' : ∀ q u, (In.cells l[j])[q]? = some u → wr.cell? ⟨b, off + j * 7 + q, none⟩ = some u := fun q u hu => by rw [cell_same hs]; exact hcs q u hu
        have hwx := hwf l[j] (List.getElem_mem hlt)
        have Hkx : Hid (okI l[j] = true) := List.all_eq_true.1 Hall.out _ (List.getElem_mem hlt)
        have Htk : Hid (textP (l.take (j + 1)) = textP (l.take j) ++ lineI l[j] ++ [10]) := textP_take l j hlt
        have Hln : Hid ((textP (l.take j)).length ≤ 20000) := by
          have h1 := textP_len (l.take j) (fun x hx => hwf x (List.mem_of_mem_take hx)) (by
            rw [List.all_eq_true]
            exact fun x hx => List.all_eq_true.1 Hall.out x (List.mem_of_mem_take hx))
          rw [List.length_take] at h1
          show _ ≤ _
          omega
        generalize l[j] = x at *
        obtain ⟨c0, c1, c2, c3, c4, c5, c6⟩ := cells7 hcs'
        have hgw : w.heap.size ≤ wr.heap.size := hg.size
        have hga := World.grownBy_alloc wr (.cells #[.int .i64 x.op, .int .i64 x.a, .int .i64 x.b, .int .i64 x.c, .int .i64 x.v.k, .int .i64 x.v.n, .string x.v.s] 35) none
        have hGa := (HG0.out.keptN hg).keptN hga
        have Hsp := hide (spell_any x _ hwx Hkx.out hGa)
        have Hll := hide (line_len x hwx Hkx.out)
        have hbx := Ib.new wr x
        obtain ⟨d0, d1, d2, d3, d4, d5, d6⟩ := hbx.cs
        have Hlp := hide (line_pos x Hkx.out)
        obtain ⟨L, HLi⟩ : ∃ L, Hid (lineI x = L) := ⟨_, rfl⟩
        have Hjw : Hid (∀ v W, Ow Value.string 9 W (wr.alloc (.cells #[.int .i64 x.op, .int .i64 x.a, .int .i64 x.b, .int .i64 x.c, .int .i64 x.v.k, .int .i64 x.v.n, .string x.v.s] 35)).heap.size v ((wordsI x).map mkB) → Calls Tryz.prog 17 #[v, .string ⟨#[32]⟩] W fun e w' => e = .returned (.string ⟨L.toArray⟩) ∧ W.grownBy w' none) := by
          intro v W hW
          rw [← HLi.out]
          exact join_words v x _ W hwx Hkx.out hW
        rw [HLi.out] at Htk Hll Hlp
        have Hap : Hid (∀ W, wr.grownBy W none → ∃ v' w', (Builtin.append_ #[45, 9] 45 #[u6, .string ⟨L.toArray⟩]).run Tryz.prog W = .ok v' w' ∧ Own 5 w' w.heap.size v' (textP (l.take j) ++ L) ∧ w.grownBy w' none) := by
          intro W hW
          have hl1 := Hln.out
          have hl2 := Hll.out
          obtain ⟨v', w', h1, h2, h3, h4⟩ := bw_app W w.heap.size u6 _ 45 9 45 Tryz.underlying45 (.inl (ho.kept hW (by cases u6.ownBlock <;> simp))) _ L (src_txt W L) Hlp.out (Nat.le_trans hgw hW.size) (by omega)
          exact ⟨v', w', h1, h2, grown_trans (grown_trans hg hW (.inl rfl)) h3 (by
            cases hu : u6.ownBlock with
            | none => exact .inl rfl
            | some q => exact .inr ⟨q, rfl, (ho.lt q hu).1⟩)⟩
        have Haq : Hid (∀ W v, Own 5 W w.heap.size v (textP (l.take j) ++ L) → w.grownBy W none → ∃ v' w', (Builtin.append_ #[45, 45] 45 #[v, .slice (some ⟨W.heap.size, 0, none⟩) 1 1]).run Tryz.prog (W.alloc (.cells #[.int .u8 10] 5)) = .ok v' w' ∧ Own 5 w' w.heap.size v' (textP (l.take j) ++ L ++ [10]) ∧ w.grownBy w' none) := by
          intro W v hO hW
          have hl1 := Hln.out
          have hl2 := Hll.out
          obtain ⟨v', w', h1, h2, h3, h4⟩ := bw_app (W.alloc (.cells #[.int .u8 10] 5)) w.heap.size v _ 45 45 45 Tryz.underlying45 (.inl (hO.alloc _)) _ [10] (src_one8 W 45 5 Tryz.underlying45 10 W.heap.size rfl) (by simp) (by have := hW.size; simp; omega) (by simp only [List.length_append, List.length_singleton]; omega)
          exact ⟨v', w', h1, h2, grown_trans (grown_trans hW (World.grownBy_alloc _ _ _) (.inl rfl)) h3 (by
            cases hu : v.ownBlock with
            | none => exact .inl rfl
            | some q => exact .inr ⟨q, rfl, (hO.lt q hu).1⟩)⟩
        clear hs hcs hcs' hbx ho hg HL
        go_wp2_with (first
          | (go_at_call 18; refine (Hsp.out).mono ?_; rintro e w2 ⟨v2, rfl, hO2, hg2⟩)
          | (go_at_call 17; refine (Hjw.out _ _ hO2).mono ?_; rintro e w3 ⟨rfl, hg3⟩; obtain ⟨v4, w4, hr4, hO4, hg4⟩ := Hap.out w3 (grown_up (grown_up hga hg2) hg3); obtain ⟨v5, w5, hr5, hO5, hg5⟩ := Haq.out w4 v4 hO4 hg4)
          | (at_builtin; refine iwpList_app_at rfl (.tmp 23) (.tmp 26) 45 9 rfl _ _ rfl rfl hr4 ?_)
          | (at_builtin; refine iwpList_app_at rfl (.tmp 28) (.tmp 29) 45 45 rfl _ _ rfl rfl hr5 ?_))
        go_roundw
        case rel => exact ⟨j + 1, by omega, by go_num, by rw [Htk.out]; exact hO5, hg5⟩
        case measure => simp [intOf]; omega
      · have ej : l.take j = l := List.take_of_length_le (by omega)
        rw [ej] at ho
        have hcv := run_convert_own wr 45 9 5 Tryz.underlying45 Tryz.underlying5 Tryz.underlying9 ho
        clear ho ej
        go_wp2
        go_ret2
        rw [HW.out]
        exact ⟨rfl, hg⟩
  · have HW : Hid (wtB l = []) := by
      show _ = _
      unfold wtB
      rw [if_neg]
      intro h
      exact hE (HWE.out.2 h)
    have hE' : (E == 0) = false := by simpa using hE
    clear hL hm HWE hE
    go_enter Tryz.func8, Tryz.ntmps8
    go_wp2_with (go_at_call 16; refine (Hcw.out).mono ?_; rintro e w1 ⟨rfl, hg1⟩)
    go_ret2
    rw [HW.out]
    exact ⟨rfl, hg1⟩

end Go.Proofs.YthopmlgfklhagaaGreatDoor
