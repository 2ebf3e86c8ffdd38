/- Contracts, over the turned program: bytes in pieces. Conditions: those that each theorem states. -/
import Derived.Test.YtamgnpmkmlhadaaERe
import Derived.Deep.RegionLaw
namespace Go.Proofs.Ytamgnpmkmlhadaa
open Go Go.RowKit
set_option linter.unusedVariables false

/-- An append to a row, of elements of any size, that a call itself has laid, also of none to none. -/
theorem app_row9 (t e ty : TypeId) (z : Value) (sz by_ : Nat) (ht : Try.prog.underlying t = some (.slice e)) (hinfo : (Try.prog.info? e).map (fun i => (i.zero, i.size, i.bytes)) = some (some z, sz, by_)) (hzc : z.cells.size = sz) (hby : by_ ≤ 64)
    (w : World) (base : Nat) (v : Value) (n : Nat) (cs : List Value) (x : Value) (m : Nat) (ds : List Value) (hO : w.ownsRow base e sz v n cs) (hs : Src Try.prog sz t x m ds w) (hb : base ≤ w.heap.size) (hl : n + m ≤ 1000000000) :
    ∃ v' w', (Builtin.append_ #[t, t] ty #[v, x]).run Try.prog w = .ok v' w' ∧ w'.ownsRow base e sz v' (n + m) (cs ++ ds) ∧ w.grownBy w' v.ownBlock ∧ (v'.ownBlock = v.ownBlock ∨ v'.ownBlock = some w.heap.size) := by
  obtain ⟨i0, hi, hz0, hz1, hz2⟩ := info_parts hinfo
  by_cases h0 : 0 < n + m
  · exact run_append_own_row (P := Try.prog) w base t t ty e i0 z sz by_ ht hi hz0 hzc hz1 hz2 v n cs hO x m ds hs h0 (by
      have : (n + m) * by_ ≤ 1000000000 * 64 := Nat.mul_le_mul hl hby
      omega) (by unfold maxLen; omega) hb
  · obtain rfl : n = 0 := by omega
    obtain rfl : m = 0 := by omega
    have hd : ds = [] := List.eq_nil_of_length_eq_zero (by have := hs.newsLen; simpa using this)
    subst hd
    have hs' : Src Try.prog i0.size t x 0 [] w := by rw [hz1]; exact hs
    have hf := hs'.cells
    refine ⟨v, w, ?_, by rw [List.append_nil]; exact hO, ⟨rfl, rfl, rfl, Nat.le_refl _, fun _ _ _ => rfl⟩, .inl rfl⟩
    rcases hO.2 with ⟨rfl, _⟩ | ⟨g, cap, cur, rfl, _⟩
    · simp [Builtin.append_, run_underlying ht, sizeOf, typeInfo, hi, hs'.len, hf]
    · simp [Builtin.append_, run_underlying ht, sizeOf, typeInfo, hi, hs'.len, hf, Addr.add_lit, storeCells]
theorem wp_app_at9 {P : Program} {w : World} {o : Oper} {a : Act} {K : Act → World → Prop} {Q : Exit → Act → World → Prop} (s x : Operand) (t tx : TypeId)
    (ho : o.op = .call { callee := .builtin .append, args := #[s, x], argTypes := #[t, tx] }) (v xv : Value) (hs : a.eval s = v) (hx : a.eval x = xv) {v' : Value} {w' : World}
    (hr : (Builtin.append_ #[t, tx] o.type #[v, xv]).run P w = .ok v' w') (h : K (a.put o.dst v') w') : o.wp P a w K Q := by
  unfold Oper.wp execOp
  simp only [ho, resolve, invoke, builtin, Sem.run_bind, Sem.run_pure, Result.andThen_ok, List.map_toArray, List.map_cons, List.map_nil, hs, hx, hr]
  exact h
theorem wpList_app_at9 {P : Program} {w : World} {ops : Array Oper} {rest : List Oper} {o : Oper} {a : Act} {Q : Exit → Act → World → Prop} (hgd : o.guard = none) (s x : Operand) (t tx : TypeId)
    (ho : o.op = .call { callee := .builtin .append, args := #[s, x], argTypes := #[t, tx] }) (v xv : Value) (hs : a.eval s = v) (hx : a.eval x = xv) {v' : Value} {w' : World}
    (hr : (Builtin.append_ #[t, tx] o.type #[v, xv]).run P w = .ok v' w') (h : wpList P ops Q rest (a.put o.dst v') w') : wpList P ops Q (o :: rest) a w :=
  wpList_plain hgd fun _ hK => wp_app_at9 s x t tx ho v xv hs hx hr (hK _ _ h)
theorem infoStr9 : (Try.prog.info? 9).map (fun i => (i.zero, i.size, i.bytes)) = some (some (.string ByteArray.empty), 1, 16) := by kernel_rfl
theorem grown_row9 {w w' : World} (h : w.grownBy w' none) (row : Option Nat) : w.grownBy w' row := ⟨h.os, h.tape, h.output, h.size, fun k hk _ => h.block k hk (by simp)⟩

/-- The first m pieces of k bytes. -/
def pcA (s : ByteArray) (k i : Nat) : ByteArray := s.extract (i * k) (min ((i + 1) * k) s.size)
def pcP (s : ByteArray) (k m : Nat) : List ByteArray := (List.range m).map (pcA s k)
theorem pcP_len (s : ByteArray) (k m : Nat) : (pcP s k m).length = m := by unfold pcP; simp
theorem pcP_succ (s : ByteArray) (k m : Nat) : pcP s k (m + 1) = pcP s k m ++ [pcA s k m] := by
  unfold pcP
  rw [List.range_succ, List.map_append]
  rfl
theorem pcP_at (s : ByteArray) (k m i : Nat) (h : i < (pcP s k m).length) : (pcP s k m)[i] = pcA s k i := by
  simp [pcP]
/-- How many bytes a piece has, how many pieces there are. -/
def pcK (s : ByteArray) (n : Int) : Nat := if n < 1 then s.size else n.toNat
def pcN (s : ByteArray) (n : Int) : Nat := if s.size = 0 then 0 else (s.size + pcK s n - 1) / pcK s n
def pcs (s : ByteArray) (n : Int) : List ByteArray := pcP s (pcK s n) (pcN s n)
theorem pcN_eq (s : ByteArray) (n : Int) (j : Nat) (h1 : j * pcK s n < s.size) (h2 : s.size ≤ (j + 1) * pcK s n) : pcN s n = j + 1 := by
  unfold pcN
  rw [if_neg (by omega)]
  generalize pcK s n = k at *
  rw [Nat.succ_mul] at h2
  apply Nat.div_eq_of_lt_le
  · rw [Nat.succ_mul]; omega
  · rw [Nat.succ_mul, Nat.succ_mul]; omega
theorem pcs_eq (s : ByteArray) (n : Int) (j : Nat) (h1 : j * pcK s n < s.size) (h2 : s.size ≤ (j + 1) * pcK s n) : pcs s n = pcP s (pcK s n) (j + 1) := by
  unfold pcs
  rw [pcN_eq s n j h1 h2]
theorem pcs_nil (s : ByteArray) (n : Int) (h : s.size = 0) : pcs s n = [] := by
  unfold pcs pcN
  rw [if_pos h]
  rfl
/-- What is left behind the first j pieces. -/
def pcR (s : ByteArray) (k j : Nat) : ByteArray := s.extract (j * k) s.size
theorem pcR_0 (s : ByteArray) (k : Nat) : pcR s k 0 = s := by unfold pcR; rw [Nat.zero_mul]; simp
theorem pcR_size (s : ByteArray) (k j : Nat) : (pcR s k j).size = s.size - j * k := by unfold pcR; rw [ByteArray.size_extract]; omega
theorem pcR_head (s : ByteArray) (k j : Nat) (h : (j + 1) * k ≤ s.size) : (pcR s k j).extract 0 k = pcA s k j := by
  unfold pcR pcA
  apply ByteArray.ext
  apply Array.ext'
  rw [ext_list, ext_list, ext_list]
  rw [Nat.succ_mul] at h ⊢
  rw [List.drop_zero, List.take_take]
  congr 1
  omega
theorem pcR_tail (s : ByteArray) (k j : Nat) : (pcR s k j).extract k (pcR s k j).size = pcR s k (j + 1) := by
  rw [pcR_size]
  unfold pcR
  apply ByteArray.ext
  apply Array.ext'
  rw [ext_list, ext_list, ext_list, Nat.succ_mul]
  rw [List.drop_take, List.drop_drop, List.take_take]
  congr 1
  omega
theorem pcR_last (s : ByteArray) (k j : Nat) (h : s.size ≤ (j + 1) * k) : pcR s k j = pcA s k j := by
  unfold pcR pcA
  rw [Nat.min_eq_right h]
theorem size_nil9 (s : ByteArray) (h : s.size = 0) : s.data.toList = [] := List.length_eq_zero_iff.1 (by rw [Array.length_toList]; exact h)
theorem mul_ge9 (j k : Nat) (h : 1 ≤ k) : j ≤ j * k := Nat.le_mul_of_pos_right j h

end Go.Proofs.Ytamgnpmkmlhadaa
