/- Contracts, over the turned program: bytes in pieces. Conditions: those that each theorem states. -/
import Derived.Test.YthopmlgfklhagaaERe
import Derived.Deep.RegionLaw
namespace Go.Proofs.Ythopmlgfklhagaa
open Go Go.RowKit
set_option linter.unusedVariables false

/-- An append to a row, of elements of any size, that a call itself has laid, also of none to none. -/
theorem app_row9 (t e ty : TypeId) (z : Value) (sz by_ : Nat) (ht : Try.prog.underlying t = some (.slice e)) (hinfo : (Try.prog.info? e).map (fun i => (i.zero, i.size, i.bytes)) = some (some z, sz, by_)) (hzc : z.cells.size = sz) (hby : by_ ≤ 64)
    (w : World) (base : Nat) (v : Value) (n : Nat) (cs : List Value) (x : Value) (m : Nat) (ds : List Value) (hO : w.ownsRow base e sz v n cs) (hs : Src Try.prog sz t x m ds w) (hb : base ≤ w.heap.size) (hl : n + m ≤ 1000000000) :
    ∃ v' w', (Builtin.append_ #[t, t] ty #[v, x]).run Try.prog w = .ok v' w' ∧ w'.ownsRow base e sz v' (n + m) (cs ++ ds) ∧ w.grownBy w' v.ownBlock ∧ (v'.ownBlock = v.ownBlock ∨ v'.ownBlock = some w.heap.size) := by
  obtain ⟨i0, hi, hz0, hz1, hz2⟩ := info_parts hinfo
  by_cases h0 : 0 < n + m
  · exact run_append_own_row (P := Try.prog) w base t t ty e i0 z sz by_ ht hi hz0 hzc hz1 hz2 v n cs hO x m ds hs h0 (by
      have : (n + m) * by_ ≤ 1000000000 * 64 := Nat.mul_le_mul hl hby
      omega) (by unfold maxLen; omega) hb
  · obtain rfl : n = 0 := by omega
    obtain rfl : m = 0 := by omega
    have hd : ds = [] := List.eq_nil_of_length_eq_zero (by have := hs.newsLen; simpa using this)
    subst hd
    have hs' : Src Try.prog i0.size t x 0 [] w := by rw [hz1]; exact hs
    have hf := hs'.cells
    refine ⟨v, w, ?_, by rw [List.append_nil]; exact hO, ⟨rfl, rfl, rfl, Nat.le_refl _, fun _ _ _ => rfl⟩, .inl rfl⟩
    rcases hO.2 with ⟨rfl, _⟩ | ⟨g, cap, cur, rfl, _⟩
    · simp [Builtin.append_, run_underlying ht, sizeOf, typeInfo, hi, hs'.len, hf]
    · simp [Builtin.append_, run_underlying ht, sizeOf, typeInfo, hi, hs'.len, hf, Addr.add_lit, storeCells]
theorem wp_app_at9 {P : Program} {w : World} {o : Oper} {a : Act} {K : Act → World → Prop} {Q : Exit → Act → World → Prop} (s x : Operand) (t tx : TypeId)
    (ho : o.op = .call { callee := .builtin .append, args := #[s, x], argTypes := #[t, tx] }) (v xv : Value) (hs : a.eval s = v) (hx : a.eval x = xv) {v' : Value} {w' : World}
    (hr : (Builtin.append_ #[t, tx] o.type #[v, xv]).run P w = .ok v' w') (h : K (a.put o.dst v') w') : o.wp P a w K Q := by
  unfold Oper.wp execOp
  simp only [ho, resolve, invoke, builtin, Sem.run_bind, Sem.run_pure, Result.andThen_ok, List.map_toArray, List.map_cons, List.map_nil, hs, hx, hr]
  exact h
theorem wpList_app_at9 {P : Program} {w : World} {ops : Array Oper} {rest : List Oper} {o : Oper} {a : Act} {Q : Exit → Act → World → Prop} (hgd : o.guard = none) (s x : Operand) (t tx : TypeId)
    (ho : o.op = .call { callee := .builtin .append, args := #[s, x], argTypes := #[t, tx] }) (v xv : Value) (hs : a.eval s = v) (hx : a.eval x = xv) {v' : Value} {w' : World}
    (hr : (Builtin.append_ #[t, tx] o.type #[v, xv]).run P w = .ok v' w') (h : wpList P ops Q rest (a.put o.dst v') w') : wpList P ops Q (o :: rest) a w :=
  wpList_plain hgd fun _ hK => wp_app_at9 s x t tx ho v xv hs hx hr (hK _ _ h)
theorem infoStr9 : (Try.prog.info? 9).map (fun i => (i.zero, i.size, i.bytes)) = some (some (.string ByteArray.empty), 1, 16) := by kernel_rfl
/-- One text appended, out of a new block. -/
theorem app_str9 (w : World) (base : Nat) (v : Value) (l : List ByteArray) (X : ByteArray) (hO : Ow Value.string 9 w base v l) (hb : base ≤ w.heap.size) (hl : l.length ≤ 100000000) :
    ∃ v' w', (Builtin.append_ #[55, 55] 55 #[v, .slice (some ⟨w.heap.size, 0, none⟩) 1 1]).run Try.prog (w.alloc (.cells #[.string X] 9)) = .ok v' w' ∧ Ow Value.string 9 w' base v' (l ++ [X]) ∧ w.grownBy w' v.ownBlock ∧ (v'.ownBlock = v.ownBlock ∨ ∃ g, v'.ownBlock = some g ∧ w.heap.size ≤ g) := by
  obtain ⟨v', w', h1, h2, h3, h4⟩ := app_row9 55 9 55 _ 1 16 Try.underlying55 infoStr9 rfl (by omega) (w.alloc (.cells #[.string X] 9)) base v _ _ _ 1 [.string X] (World.ownsRow.alloc hO _) (src_cell w 55 9 Try.underlying55 (.string X) rfl w.heap.size rfl) (by simp; omega) (by omega)
  refine ⟨v', w', h1, ?_, grown_trans (World.grownBy_alloc w _ _) h3 (.inl rfl), ?_⟩
  · unfold Ow
    rw [List.length_append, List.map_append]
    exact h2
  · rcases h4 with h4 | h4
    · exact .inl h4
    · exact .inr ⟨_, h4, by simp⟩
theorem grown_row9 {w w' : World} (h : w.grownBy w' none) (row : Option Nat) : w.grownBy w' row := ⟨h.os, h.tape, h.output, h.size, fun k hk _ => h.block k hk (by simp)⟩

/-- The first m pieces of k bytes. -/
def pcA (s : ByteArray) (k i : Nat) : ByteArray := s.extract (i * k) (min ((i + 1) * k) s.size)
def pcP (s : ByteArray) (k m : Nat) : List ByteArray := (List.range m).map (pcA s k)
theorem pcP_len (s : ByteArray) (k m : Nat) : (pcP s k m).length = m := by unfold pcP; simp
theorem pcP_succ (s : ByteArray) (k m : Nat) : pcP s k (m + 1) = pcP s k m ++ [pcA s k m] := by
  unfold pcP
  rw [List.range_succ, List.map_append]
  rfl
theorem pcP_at (s : ByteArray) (k m i : Nat) (h : i < (pcP s k m).length) : (pcP s k m)[i] = pcA s k i := by
  simp [pcP]
/-- How many bytes a piece has, how many pieces there are. -/
def pcK (s : ByteArray) (n : Int) : Nat := if n < 1 then s.size else n.toNat
def pcN (s : ByteArray) (n : Int) : Nat := if s.size = 0 then 0 else (s.size + pcK s n - 1) / pcK s n
def pcs (s : ByteArray) (n : Int) : List ByteArray := pcP s (pcK s n) (pcN s n)
theorem pcN_eq (s : ByteArray) (n : Int) (j : Nat) (h1 : j * pcK s n < s.size) (h2 : s.size ≤ (j + 1) * pcK s n) : pcN s n = j + 1 := by
  unfold pcN
  rw [if_neg (by omega)]
  generalize pcK s n = k at *
  rw [Nat.succ_mul] at h2
  apply Nat.div_eq_of_lt_le
  · rw [Nat.succ_mul]; omega
  · rw [Nat.succ_mul, Nat.succ_mul]; omega
theorem pcs_eq (s : ByteArray) (n : Int) (j : Nat) (h1 : j * pcK s n < s.size) (h2 : s.size ≤ (j + 1) * pcK s n) : pcs s n = pcP s (pcK s n) (j + 1) := by
  unfold pcs
  rw [pcN_eq s n j h1 h2]
theorem pcs_nil (s : ByteArray) (n : Int) (h : s.size = 0) : pcs s n = [] := by
  unfold pcs pcN
  rw [if_pos h]
  rfl
/-- What is left behind the first j pieces. -/
def pcR (s : ByteArray) (k j : Nat) : ByteArray := s.extract (j * k) s.size
theorem pcR_0 (s : ByteArray) (k : Nat) : pcR s k 0 = s := by unfold pcR; rw [Nat.zero_mul]; simp
theorem pcR_size (s : ByteArray) (k j : Nat) : (pcR s k j).size = s.size - j * k := by unfold pcR; rw [ByteArray.size_extract]; omega
theorem pcR_head (s : ByteArray) (k j : Nat) (h : (j + 1) * k ≤ s.size) : (pcR s k j).extract 0 k = pcA s k j := by
  unfold pcR pcA
  apply ByteArray.ext
  apply Array.ext'
  rw [ext_list, ext_list, ext_list]
  rw [Nat.succ_mul] at h ⊢
  rw [List.drop_zero, List.take_take]
  congr 1
  omega
theorem pcR_tail (s : ByteArray) (k j : Nat) : (pcR s k j).extract k (pcR s k j).size = pcR s k (j + 1) := by
  rw [pcR_size]
  unfold pcR
  apply ByteArray.ext
  apply Array.ext'
  rw [ext_list, ext_list, ext_list, Nat.succ_mul]
  rw [List.drop_take, List.drop_drop, List.take_take]
  congr 1
  omega
theorem pcR_last (s : ByteArray) (k j : Nat) (h : s.size ≤ (j + 1) * k) : pcR s k j = pcA s k j := by
  unfold pcR pcA
  rw [Nat.min_eq_right h]
theorem size_nil9 (s : ByteArray) (h : s.size = 0) : s.data.toList = [] := List.length_eq_zero_iff.1 (by rw [Array.length_toList]; exact h)
theorem mul_ge9 (j k : Nat) (h : 1 ≤ k) : j ≤ j * k := Nat.le_mul_of_pos_right j h

set_option maxRecDepth 100000 in
set_option maxHeartbeats 2000000 in
theorem epieces_any (s : ByteArray) (n : Int) (w : World) (hs : s.size ≤ 1048576) :
    Calls Try.prog 21 #[.string s, .int .i64 n] w fun e w' => ∃ v, e = .returned v ∧ Ow Value.string 9 w' w.heap.size v (pcs s n) ∧ w.grownBy w' none := by
  obtain ⟨k, HK⟩ : ∃ k, Hid (pcK s n = k) := ⟨_, rfl⟩
  have HE := hide (pcs_eq s n)
  have HN := hide (pcs_nil s n)
  rw [HK.out] at HE
  have hK : (n < 1 ∧ k = s.size) ∨ (¬ n < 1 ∧ (k : Int) = n) := by
    rw [← HK.out]
    unfold pcK
    by_cases h : n < 1
    · rw [if_pos h]; exact .inl ⟨h, rfl⟩
    · rw [if_neg h]; exact .inr ⟨h, by omega⟩
  obtain ⟨P, HP⟩ : ∃ P, Hid (pcs s n = P) := ⟨_, rfl⟩
  rw [HP.out] at HE HN ⊢
  rcases hK with ⟨h1, hk⟩ | ⟨h1, hk⟩
  · have Hk := hide hk
    have Hs := hide hs
    clear hk hs
    go_enter Try.func21, Try.ntmps21
    go_wp2_with fail
    go_loopw [0, 5] (fun t v wr => t = .string s ∧ v = .slice none 0 0 ∧ wr = w) (fun t _ _ => 0)
    case atStart => exact ⟨rfl, rfl, rfl⟩
    case round =>
      obtain ⟨rfl, rfl, hw⟩ := hrel
      have hw := hw.symm
      subst hw
      by_cases hz : s.size = 0
      · have hP := hide (HN.out hz)
        have he : (s.toList == []) = true := by rw [ByteArray.toList_eq, size_nil9 s hz]; rfl
        clear hz
        go_wp2
        go_ret
        refine ⟨_, rfl, ?_, World.grownBy.refl _ _⟩
        rw [hP.out]
        exact Ow.nil _ _ _ _
      · have hP := hide (HE.out 0 (by omega) (by rw [Hk.out]; omega))
        have hA : Hid (pcP s k (0 + 1) = [s]) := by show _ = _; rw [pcP_succ, ← pcR_last s k 0 (by rw [Hk.out]; omega), pcR_0]; rfl
        have he : (s.toList == []) = false := by rw [beq_eq_false_iff_ne, ByteArray.toList_eq]; intro h; have := congrArg List.length h; rw [Array.length_toList] at this; exact hz this
        clear hz
        obtain ⟨v', w', hr, hO', hg', hv'⟩ := app_str9 w w.heap.size (.slice none 0 0) [] s (Ow.nil _ _ _ _) (Nat.le_refl _) (by simp)
        go_wp2_with (at_builtin; refine wpList_app_at9 rfl (.tmp 26) (.tmp 28) 55 55 rfl _ _ rfl rfl hr ?_)
        go_ret
        refine ⟨_, rfl, ?_, hg'⟩
        rw [hP.out, hA.out]
        exact hO'
  · have Hk := hide hk
    have Hs := hide hs
    have hk1 : 1 ≤ k := by omega
    clear hs
    go_enter Try.func21, Try.ntmps21
    go_wp2_with fail
    go_loopw [0, 5] (fun t v wr => ∃ j : Nat, t = .string (pcR s k j) ∧ Hid (j * k < s.size ∨ j = 0) ∧ Ow Value.string 9 wr w.heap.size v (pcP s k j) ∧ w.grownBy wr none) (fun t _ _ => match t with | .string x => x.size | _ => 0)
    case atStart => exact ⟨0, by rw [pcR_0], .inr rfl, Ow.nil _ _ _ _, World.grownBy.refl _ _⟩
    case round =>
      obtain ⟨j, rfl, Hj, ho, hg⟩ := hrel
      have hRs := pcR_size s k j
      have hHd := hide (pcR_head s k j)
      have hTl := hide (pcR_tail s k j)
      have hLs := hide (pcR_last s k j)
      have hSc := hide (pcP_succ s k j)
      have hm := hide (mul_ge9 j k hk1)
      have hss : Hid ((j + 1) * k = j * k + k) := Nat.succ_mul j k
      have hsz := hg.size
      obtain ⟨X, HX⟩ : ∃ X, Hid (pcR s k j = X) := ⟨_, rfl⟩
      rw [HX.out] at hRs hHd hTl hLs ⊢
      have HRs := hide hRs
      clear hRs
      by_cases hlt : n < (X.size : Int)
      · have Hjk : Hid ((j + 1) * k < s.size) := by have := HRs.out; have := hss.out; have := Hk.out; show _ < _; omega
        have hcut := hHd.out (Nat.le_of_lt Hjk.out)
        have htl := hTl.out
        have k0 : (0 : Int) ≤ n := by omega
        have k1 : n ≤ (X.size : Int) := by omega
        have hnk : n.toNat = k := by have := Hk.out; omega
        have HM : Hid ((pcR s k (j + 1)).size < X.size) := by have h1 := pcR_size s k (j + 1); have h2 := HRs.out; have h3 := hss.out; show _ < _; omega
        obtain ⟨v', w', hr, hO', hg', hv'⟩ := app_str9 wr w.heap.size u5 (pcP s k j) (pcA s k j) ho hsz (by rw [pcP_len]; have h1 := hm.out; have h2 := HRs.out; have h3 := Hs.out; have h4 := hss.out; have h5 := Hjk.out; omega)
        have hgg : w.grownBy w' none := grown_new hg hg' (fun i e => (ho.lt i e).1)
        clear hk h1
        go_wp2_with (first | (at_builtin; refine wpList_app_at9 rfl (.tmp 14) (.tmp 18) 55 55 rfl _ _ rfl rfl hr ?_))
        go_roundw
        case rel => exact ⟨j + 1, by rw [← htl], .inl Hjk.out, by rw [hSc.out]; exact hO', hgg⟩
        case measure => exact HM.out
      · have Hle : Hid (s.size ≤ (j + 1) * k) := by have := HRs.out; have := hss.out; have := Hk.out; show _ ≤ _; omega
        by_cases hz : X.size = 0
        · have hz0 : s.size = 0 := by
            have h2 := HRs.out
            rcases Hj.out with h | h
            · omega
            · rw [h] at h2; omega
          have hP := hide (HN.out hz0)
          have hj0 : j = 0 := by
            rcases Hj.out with h | h
            · omega
            · exact h
          have he : (X.toList == []) = true := by rw [ByteArray.toList_eq, size_nil9 X hz]; rfl
          clear hz
          go_wp2
          go_ret
          refine ⟨_, rfl, ?_, hg⟩
          rw [hP.out]
          rw [hj0] at ho
          exact ho
        · have hP := hide (HE.out j (by have := HRs.out; omega) Hle.out)
          have he : (X.toList == []) = false := by rw [beq_eq_false_iff_ne, ByteArray.toList_eq]; intro h; have := congrArg List.length h; rw [Array.length_toList] at this; exact hz this
          have HA := hide (hLs.out Hle.out)
          obtain ⟨v', w', hr, hO', hg', hv'⟩ := app_str9 wr w.heap.size u5 (pcP s k j) X ho hsz (by rw [pcP_len]; have h1 := hm.out; have h2 := HRs.out; have h3 := Hs.out; omega)
          have hgg : w.grownBy w' none := grown_new hg hg' (fun i e => (ho.lt i e).1)
          clear hz hk h1
          go_wp2_with (first | (at_builtin; refine wpList_app_at9 rfl (.tmp 26) (.tmp 28) 55 55 rfl _ _ rfl rfl hr ?_))
          go_ret
          refine ⟨_, rfl, ?_, hgg⟩
          rw [hP.out, hSc.out, ← HA.out]
          exact hO'
end Go.Proofs.Ythopmlgfklhagaa
