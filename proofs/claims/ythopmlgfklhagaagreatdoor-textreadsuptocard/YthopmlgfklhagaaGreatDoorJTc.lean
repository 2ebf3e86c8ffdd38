/- Contract, over the turned program: the word of a value that may be. Conditions: those that the theorem states. -/
import Derived.Test.YthopmlgfklhagaaGreatDoorJTb
import Derived.Lib.SmallJoins
namespace Go.Proofs.YthopmlgfklhagaaGreatDoor
open Go.RowKit
set_option linter.unusedVariables false

/-- A literal's row, with the mark that its conversion leaves behind it. -/
def Lt1 (w : World) (base : Nat) (v : Value) (l : List UInt8) : Prop :=
  ∃ g, v = .slice (some ⟨g, 0, none⟩) l.length l.length ∧ base ≤ g ∧ w.heap[g]? = some (.cells (bcs l).toArray 5 (l.length, l.length + 1)) ∧ l.length ≤ 1000
/-- Bytes of the call's own: a row, or a literal's. -/
def Bw (w : World) (base : Nat) (v : Value) (l : List UInt8) : Prop := Own 5 w base v l ∨ Lt1 w base v l
theorem Lt1.cells {w : World} {base g n c : Nat} {l : List UInt8} (hg : w.heap[g]? = some (.cells (bcs l).toArray 5 (n, c))) : ∀ j u, (bcs l)[j]? = some u → w.cell? ((⟨g, 0, none⟩ : Addr).add j) = some u := by
  intro j u hu
  rw [addr_plainI, cell_of_row w g (0 + j) _ 5 (n, c) hg, Nat.zero_add]
  simpa using hu
theorem bcs_oneB (l : List UInt8) : ∀ u ∈ bcs l, u.oneCell' = true := by
  intro u hu
  obtain ⟨x, _, rfl⟩ := List.mem_map.1 hu
  rfl
theorem Bw.lt {w : World} {base : Nat} {v : Value} {l : List UInt8} (h : Bw w base v l) : ∀ k, v.ownBlock = some k → base ≤ k ∧ k < w.heap.size := by
  rcases h with h | ⟨g, rfl, hb, hg, _⟩
  · exact h.lt
  · intro k hk
    cases hk
    exact ⟨hb, (Array.getElem?_eq_some_iff.1 hg).1⟩
theorem Bw.kept {w w' : World} {base : Nat} {v : Value} {l : List UInt8} {row : Option Nat} (h : Bw w base v l) (hg : w.grownBy w' row) (hne : v.ownBlock = none ∨ v.ownBlock ≠ row) : Bw w' base v l := by
  rcases h with h | ⟨g, rfl, hb, hgg, hl⟩
  · exact .inl (h.kept hg hne)
  · refine .inr ⟨g, rfl, hb, ?_, hl⟩
    rw [hg.block g (Array.getElem?_eq_some_iff.1 hgg).1 (by
      rcases hne with hne | hne
      · simp [Value.ownBlock] at hne
      · simpa [Value.ownBlock] using hne)]
    exact hgg
/-- An append to such bytes. -/
theorem bw_app (w : World) (base : Nat) (v : Value) (l : List UInt8) (t tx ty : TypeId) (ht : Tryz.prog.underlying t = some (.slice 5)) (h : Bw w base v l) (x : Value) (k : List UInt8) (hs : Src Tryz.prog 1 tx x k.length (bcs k) w) (hk : 0 < k.length) (hb : base ≤ w.heap.size) (hl : l.length + k.length ≤ 140737488355328) :
    ∃ v' w', (Builtin.append_ #[t, tx] ty #[v, x]).run Tryz.prog w = .ok v' w' ∧ Own 5 w' base v' (l ++ k) ∧ w.grownBy w' v.ownBlock ∧ (v'.ownBlock = v.ownBlock ∨ v'.ownBlock = some w.heap.size) := by
  obtain ⟨i0, hi, hz0, hz1, hz2⟩ := info_parts infoU8
  have hml : l.length + k.length ≤ maxLen := by unfold maxLen; omega
  rcases h with h | ⟨g, rfl, hbg, hg, hlm⟩
  · obtain ⟨v', w', h1, h2, h3, h4⟩ := run_append_own_row (P := Tryz.prog) w base t tx ty 5 i0 _ 1 1 ht hi hz0 rfl hz1 hz2 v _ _ h x _ _ hs (by omega) (by omega) hml hb
    refine ⟨v', w', h1, ?_, h3, h4⟩
    unfold Own
    rw [List.length_append, bcs_append]
    exact h2
  · have hcl : (bcs l).length = l.length := by simp [bcs]
    have hdl : (bcs k).length = k.length := by simp [bcs]
    have hs' : Src Tryz.prog i0.size tx x k.length (bcs k) w := by rw [hz1]; exact hs
    have hr := run_append_grow_src (P := Tryz.prog) w t tx ty 5 i0 _ ht hi hz0 (some ⟨g, 0, none⟩) l.length l.length (bcs l) (run_firstCells_some w.drew i0.size l.length ⟨g, 0, none⟩ l.length l.length (bcs l) (by rw [hz1, hcl]; omega) (by simpa using Lt1.cells (base := base) hg)) x k.length (bcs k) hs' (by omega) (by omega)
        (growslice_fits (by omega) (by rw [hz2]; omega))
    have hge := grownCap_ge w (l.length + k.length) l.length 5
    have hcm : grownCap w (l.length + k.length) l.length 5 ≤ maxLen := grownCap_le_maxLen w _ l.length 5 hml
    refine ⟨_, _, hr, ?_, ⟨rfl, rfl, rfl, by simp, fun k' hk' _ => heap_alloc_old w.drew _ hk'⟩, .inr rfl⟩
    unfold Own
    rw [List.length_append, bcs_append]
    refine ⟨by simp [hcl, hdl], .inr ⟨w.heap.size, _, _, rfl, hb, heap_alloc_new w.drew _, hge, hcm, ?_, ?_⟩⟩
    · simp only [Array.size_append, List.size_toArray, size_zeroCells, List.length_append, hcl, hdl, show (Value.int IntKind.u8 0).cells.size = 1 from rfl]
      omega
    · simp only [Array.toList_append]
      rw [show (l.length + k.length) * 1 = (bcs l ++ bcs k).length by rw [List.length_append, hcl, hdl]; omega]
      exact List.take_left
theorem run_convert_bw (w : World) {base : Nat} {v : Value} {l : List UInt8} (h : Bw w base v l) : (convert 45 9 v).run Tryz.prog w = .ok (.string ⟨l.toArray⟩) w := by
  rcases h with h | ⟨g, rfl, _, hg, _⟩
  · exact run_convert_own (P := Tryz.prog) w 45 9 5 Tryz.underlying45 Tryz.underlying5 Tryz.underlying9 h
  · exact run_convert_bytes_back (P := Tryz.prog) w 45 9 5 ⟨g, 0, none⟩ l.length l Tryz.underlying45 Tryz.underlying5 Tryz.underlying9 (fun j hj => Lt1.cells (base := 0) hg j _ (bcs_at l j hj))
theorem Bw.new (w : World) (l : List UInt8) (hl : l.length ≤ 1000) : Bw (w.alloc (.cells (bcs l).toArray 5 (l.length, l.length + 1))) w.heap.size (.slice (some ⟨w.heap.size, 0, none⟩) l.length l.length) l :=
  .inr ⟨w.heap.size, rfl, Nat.le_refl _, heap_alloc_new w _, hl⟩

/-- Two bytes, in a new block, as what is appended. -/
theorem src_two8 {P : Program} (w : World) (t e : TypeId) (ht : P.underlying t = some (.slice e)) (x y : UInt8) (g : Nat) (hg : w.heap.size = g) : Src P 1 t (.slice (some ⟨g, 0, none⟩) 2 2) 2 (bcs [x, y]) (w.alloc (.cells #[.int .u8 (x.toNat : Int), .int .u8 (y.toNat : Int)] e)) := by
  subst hg
  refine Src.ofSlice (e' := e) _ ht ⟨w.heap.size, 0, none⟩ 2 2 (bcs [x, y]) (by simp [bcs]) ?_ (bcs_oneB _)
  intro j u hj
  match j, hj with
  | 0, hj => simp [bcs] at hj; subst hj; simp [Addr.add]
  | 1, hj => simp [bcs] at hj; subst hj; simp [Addr.add]
  | (j + 2), hj => simp [bcs] at hj

theorem and15 (c : UInt8) : bits BinOp.and IntKind.u8 (c.toNat : Int) 15 = (c.toNat : Int) % 16 := by
  have key : ∀ n : Fin 256, bits BinOp.and IntKind.u8 ((n.1 : Nat) : Int) 15 = (n.1 : Int) % 16 := by decide +kernel
  exact key ⟨c.toNat, c.toNat_lt⟩
theorem grown_drew' (w : World) : w.grownBy w.drew none := ⟨rfl, rfl, rfl, Nat.le_refl _, fun _ _ _ => rfl⟩
def digC : ByteArray := ⟨#[48, 49, 50, 51, 52, 53, 54, 55, 56, 57, 97, 98, 99, 100, 101, 102]⟩
theorem dig_at (n : Nat) (h : n < 16) : digC[n]'(by show n < 16; exact h) = hexD n := by
  have key : ∀ n : Fin 16, digC[n.1]'(by show n.1 < 16; exact n.2) = hexD n.1 := by decide +kernel
  exact key ⟨n, h⟩

set_option maxRecDepth 100000 in
set_option maxHeartbeats 1000000 in
theorem spellValue_text (s : ByteArray) (w : World) (hs : s.size ≤ 1000) :
    Calls Tryz.prog 40 #[(⟨2, 0, s⟩ : V).val] w fun e w' => e = .returned (.string (mkB (39 :: hexL s.data.toList))) ∧ w.grownBy w' none := by
  have hb := Vb.new w ⟨2, 0, s⟩
  have hg0 := World.grownBy_alloc w (.cells #[.int .i64 2, .int .i64 0, .string s] 33) none
  obtain ⟨c0, c2⟩ : _ ∧ _ := ⟨hb.c0, hb.c2⟩
  dsimp only at c0 c2 hg0
  unfold V.val
  have hcv := Joins.run_convert_bytes_const_at (P := Tryz.prog) (w.alloc (.cells #[.int .i64 2, .int .i64 0, .string s] 33)) 45 5 #[.int .u8 39] 1 1 (w.heap.size + 1) (by simp) Tryz.underlying45 Tryz.underlying5
  have hB := Bw.new (w.alloc (.cells #[.int .i64 2, .int .i64 0, .string s] 33)) [39] (by simp)
  have hg1 := World.grownBy_alloc (w.alloc (.cells #[.int .i64 2, .int .i64 0, .string s] 33)) (.cells (bcs [39]).toArray 5 (([39] : List UInt8).length, ([39] : List UInt8).length + 1)) none
  rw [World.size_alloc] at hB
  have hV1 := hb.kept hg1 (by simp)
  have hgg := grown_up hg0 hg1
  go_enter Tryz.func40, Tryz.ntmps40
  go_wp2_with fail
  go_loopw [3, 16] (fun b i wr => ∃ k : Nat, k ≤ s.size ∧ i = .int .i64 k ∧ Bw wr (w.heap.size + 1) b (39 :: hexL (s.data.toList.take k)) ∧ w.grownBy wr none ∧ wr.cell? ⟨w.heap.size, 2, none⟩ = some (.string s)) (fun _ i _ => s.size - (intOf i).toNat)
  case atStart => exact ⟨0, Nat.zero_le _, rfl, hB, hgg, hV1.c2⟩
  case round =>
    clear hB hgg hV1 hcv c0 c2 hb hg0 hg1
    obtain ⟨k, hk, rfl, hB, hg, hc⟩ := hrel
    by_cases hlt : k < s.size
    · have hbs : w.heap.size + 1 ≤ wr.heap.size := by
        have := lt_of_cell hc
        omega
      have hcd : wr.drew.cell? ⟨w.heap.size, 2, none⟩ = some (.string s) := hc
      have hlo : (0 : Int) ≤ (s[k].toNat : Int) / 16 := by omega
      have hhi : (s[k].toNat : Int) / 16 < 16 := by have := s[k].toNat_lt; omega
      obtain ⟨X, HX⟩ : ∃ X, Hid (hexD (s[k].toNat / 16) = X) := ⟨_, hide rfl⟩
      obtain ⟨Y, HY⟩ : ∃ X, Hid (hexD (s[k].toNat % 16) = X) := ⟨_, hide rfl⟩
      have eX : ∀ h : (((s[k]'hlt).toNat : Int) / 16).toNat < 16, (⟨#[48, 49, 50, 51, 52, 53, 54, 55, 56, 57, 97, 98, 99, 100, 101, 102]⟩ : ByteArray)[(((s[k]'hlt).toNat : Int) / 16).toNat]'h = X := by
        intro h
        have := dig_at (s[k].toNat / 16) (by omega)
        rw [← HX.out, ← this]
        rfl
      have hbt : bits BinOp.and IntKind.u8 ((s[k]'hlt).toNat : Int) 15 = ((s[k]'hlt).toNat : Int) % 16 := and15 _
      have hlo2 : (0 : Int) ≤ ((s[k]'hlt).toNat : Int) % 16 := by omega
      have hhi2 : ((s[k]'hlt).toNat : Int) % 16 < 16 := by omega
      have eY : ∀ h : (((s[k]'hlt).toNat : Int) % 16).toNat < 16, (⟨#[48, 49, 50, 51, 52, 53, 54, 55, 56, 57, 97, 98, 99, 100, 101, 102]⟩ : ByteArray)[(((s[k]'hlt).toNat : Int) % 16).toNat]'h = Y := by
        intro h
        have := dig_at (s[k].toNat % 16) (by omega)
        rw [← HY.out, ← this]
        rfl
      have Htk : Hid (39 :: hexL (s.data.toList.take (k + 1)) = 39 :: hexL (s.data.toList.take k) ++ [X, Y]) := by
        show _ = _
        have hl : k < s.data.toList.length := by have : s.data.toList.length = s.size := Array.length_toList; omega
        rw [List.take_succ_eq_append_getElem hl, hexL_snoc, ← HX.out, ← HY.out]
        rfl
      have hlen : (39 :: hexL (s.data.toList.take k)).length + ([X, Y] : List UInt8).length ≤ 140737488355328 := by
        rw [List.length_cons, hexL_len, List.length_take]
        simp only [List.length_cons, List.length_nil]
        omega
      have hga := grown_up (World.grownBy_alloc wr (.cells #[.int .u8 (X.toNat : Int), .int .u8 (Y.toNat : Int)] 5) none) (grown_drew' (wr.alloc (.cells #[.int .u8 (X.toNat : Int), .int .u8 (Y.toNat : Int)] 5)))
      have hsrc : Src Tryz.prog 1 45 (.slice (some ⟨wr.heap.size, 0, none⟩) 2 2) 2 (bcs [X, Y]) (wr.alloc (.cells #[.int .u8 (X.toNat : Int), .int .u8 (Y.toNat : Int)] 5)).drew := src_two8 wr.drew 45 5 Tryz.underlying45 X Y wr.heap.size rfl
      have hca : (wr.alloc (.cells #[.int .u8 (X.toNat : Int), .int .u8 (Y.toNat : Int)] 5)).drew.cell? ⟨w.heap.size, 2, none⟩ = some (.string s) := (cell_same (hga.block w.heap.size (lt_of_cell hc) (by simp)) 2).trans hc
      obtain ⟨v', w', hr, hO', hg', hv'⟩ := bw_app _ _ _ _ 45 45 45 Tryz.underlying45 (hB.kept hga (by cases u3.ownBlock <;> simp)) _ [X, Y] hsrc (by simp) (Nat.le_trans hbs hga.size) hlen
      have hlt2 := hB.lt
      have hc' : w'.cell? ⟨w.heap.size, 2, none⟩ = some (.string s) := by
        rw [cell_same (hg'.block w.heap.size (lt_of_cell hca) (fun h => by have := (hlt2 _ h.symm).1; omega))]
        exact hca
      have hgw : w.grownBy w' none := grown_trans (grown_trans hg hga (.inl rfl)) hg' (by
        cases hu : u3.ownBlock with
        | none => exact .inl rfl
        | some q => exact .inr ⟨q, rfl, by have := (hlt2 q hu).1; omega⟩)
      clear hga hlen hB hg hsrc
      go_upto_region 7 with fail
      go_region_held_law (fun W => W.cell? ⟨w.heap.size, 2, none⟩ = some (.string s)) (first | assumption) (refine istep_app_at (by rfl) (.tmp 19) (.tmp 32) 45 45 (by rfl) _ _ (by rfl) (by rfl) hr ?_)
      all_goals go_wp2_with fail
      all_goals go_roundw
      all_goals first
        | (simp [intOf]; omega)
        | exact ⟨k + 1, by omega, by go_num, .inl (by rw [Htk.out]; exact hO'), hgw, hc'⟩
    · have ek : s.data.toList.take k = s.data.toList := List.take_of_length_le (by have : s.data.toList.length = s.size := Array.length_toList; omega)
      rw [ek] at hB
      have hcv := run_convert_bw wr hB
      clear hB ek
      go_wp2
      go_ret
      exact ⟨rfl, hg⟩

end Go.Proofs.YthopmlgfklhagaaGreatDoor
