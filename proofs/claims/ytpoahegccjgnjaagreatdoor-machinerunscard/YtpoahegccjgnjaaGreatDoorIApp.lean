/- Instructions in memory, as what is appended, and what an append makes of them. Conditions: those that each theorem states. -/
import Derived.Test.YtpoahegccjgnjaaGreatDoorIDefs
import Derived.Deep.RegionLaw
namespace Go.Proofs.YtpoahegccjgnjaaGreatDoor
open Go Go.RowKit
set_option linter.unusedVariables false

/-- An append to a row, of elements of any size, that a call itself has laid, also of none to none. -/
theorem iapp_row (t e ty : TypeId) (z : Value) (sz by_ : Nat) (ht : Tryz.prog.underlying t = some (.slice e)) (hinfo : (Tryz.prog.info? e).map (fun i => (i.zero, i.size, i.bytes)) = some (some z, sz, by_)) (hzc : z.cells.size = sz) (hby : by_ ≤ 64)
    (w : World) (base : Nat) (v : Value) (n : Nat) (cs : List Value) (x : Value) (m : Nat) (ds : List Value) (hO : w.ownsRow base e sz v n cs) (hs : Src Tryz.prog sz t x m ds w) (hb : base ≤ w.heap.size) (hl : n + m ≤ 1000000000) :
    ∃ v' w', (Builtin.append_ #[t, t] ty #[v, x]).run Tryz.prog w = .ok v' w' ∧ w'.ownsRow base e sz v' (n + m) (cs ++ ds) ∧ w.grownBy w' v.ownBlock ∧ (v'.ownBlock = v.ownBlock ∨ v'.ownBlock = some w.heap.size) := by
  obtain ⟨i0, hi, hz0, hz1, hz2⟩ := info_parts hinfo
  by_cases h0 : 0 < n + m
  · exact run_append_own_row (P := Tryz.prog) w base t t ty e i0 z sz by_ ht hi hz0 hzc hz1 hz2 v n cs hO x m ds hs h0 (by
      have : (n + m) * by_ ≤ 1000000000 * 64 := Nat.mul_le_mul hl hby
      omega) (by unfold maxLen; omega) hb
  · obtain rfl : n = 0 := by omega
    obtain rfl : m = 0 := by omega
    have hd : ds = [] := List.eq_nil_of_length_eq_zero (by have := hs.newsLen; simpa using this)
    subst hd
    have hs' : Src Tryz.prog i0.size t x 0 [] w := by rw [hz1]; exact hs
    have hf := hs'.cells
    refine ⟨v, w, ?_, by rw [List.append_nil]; exact hO, ⟨rfl, rfl, rfl, Nat.le_refl _, fun _ _ _ => rfl⟩, .inl rfl⟩
    rcases hO.2 with ⟨rfl, _⟩ | ⟨g, cap, cur, rfl, _⟩
    · simp [Builtin.append_, run_underlying ht, sizeOf, typeInfo, hi, hs'.len, hf]
    · simp [Builtin.append_, run_underlying ht, sizeOf, typeInfo, hi, hs'.len, hf, Addr.add_lit, storeCells]
theorem iwp_app_at {P : Program} {w : World} {o : Oper} {a : Act} {K : Act → World → Prop} {Q : Exit → Act → World → Prop} (s x : Operand) (t tx : TypeId)
    (ho : o.op = .call { callee := .builtin .append, args := #[s, x], argTypes := #[t, tx] }) (v xv : Value) (hs : a.eval s = v) (hx : a.eval x = xv) {v' : Value} {w' : World}
    (hr : (Builtin.append_ #[t, tx] o.type #[v, xv]).run P w = .ok v' w') (h : K (a.put o.dst v') w') : o.wp P a w K Q := by
  unfold Oper.wp execOp
  simp only [ho, resolve, invoke, builtin, Sem.run_bind, Sem.run_pure, Result.andThen_ok, List.map_toArray, List.map_cons, List.map_nil, hs, hx, hr]
  exact h
theorem iwpList_app_at {P : Program} {w : World} {ops : Array Oper} {rest : List Oper} {o : Oper} {a : Act} {Q : Exit → Act → World → Prop} (hgd : o.guard = none) (s x : Operand) (t tx : TypeId)
    (ho : o.op = .call { callee := .builtin .append, args := #[s, x], argTypes := #[t, tx] }) (v xv : Value) (hs : a.eval s = v) (hx : a.eval x = xv) {v' : Value} {w' : World}
    (hr : (Builtin.append_ #[t, tx] o.type #[v, xv]).run P w = .ok v' w') (h : wpList P ops Q rest (a.put o.dst v') w') : wpList P ops Q (o :: rest) a w :=
  wpList_plain hgd fun _ hK => iwp_app_at s x t tx ho v xv hs hx hr (hK _ _ h)
theorem istep_app_at {P : Program} {w : World} {ops : Array Oper} {o : Oper} {a : Act} {K : Act → World → Prop} {Q : Exit → Act → World → Prop} {E : Prop} (hgd : o.guard = none) (s x : Operand) (t tx : TypeId)
    (ho : o.op = .call { callee := .builtin .append, args := #[s, x], argTypes := #[t, tx] }) (v xv : Value) (hs : a.eval s = v) (hx : a.eval x = xv) {v' : Value} {w' : World}
    (hr : (Builtin.append_ #[t, tx] o.type #[v, xv]).run P w = .ok v' w') (h : K (a.put o.dst v') w') : if Region.wanted o (yielded ops a.tmps) = true then Oper.wp P o a w K Q else E := by
  have hw : Region.wanted o (yielded ops a.tmps) = true := by simp [Region.wanted, hgd]
  rw [if_pos hw]
  exact iwp_app_at s x t tx ho v xv hs hx hr h
/-- An append under a guard that holds. -/
theorem iwpList_app_g {P : Program} {w : World} {ops : Array Oper} {rest : List Oper} {o : Oper} {a : Act} {Q : Exit → Act → World → Prop} (hw : Region.wanted o (yielded ops a.tmps) = true) (s x : Operand) (t tx : TypeId)
    (ho : o.op = .call { callee := .builtin .append, args := #[s, x], argTypes := #[t, tx] }) (v xv : Value) (hs : a.eval s = v) (hx : a.eval x = xv) {v' : Value} {w' : World}
    (hr : (Builtin.append_ #[t, tx] o.type #[v, xv]).run P w = .ok v' w') (h : wpList P ops Q rest (a.put o.dst v') w') : wpList P ops Q (o :: rest) a w :=
  wpList_step fun _ hK => by rw [if_pos hw]; exact iwp_app_at s x t tx ho v xv hs hx hr (hK _ _ h)
theorem addr_plainI (b off q : Nat) : (⟨b, off, none⟩ : Addr).add q = ⟨b, off + q, none⟩ := by unfold Addr.add; split <;> simp_all
theorem Ins.src {w : World} {v : Value} {l : List In} (h : Ins w v l) : Src Tryz.prog 7 22 v l.length (ics l) w := by
  obtain ⟨a, c, rfl, h1, h2, h3⟩ := h
  cases l with
  | nil =>
    cases a with
    | none => exact Src.ofNil w Tryz.underlying22 c
    | some a => exact Src.ofSlice w Tryz.underlying22 a 0 c [] (by simp) (by simp) (by simp)
  | cons x l =>
    obtain ⟨b, off, rfl, _, _⟩ := h3 0 (by simp)
    refine Src.ofSlice w Tryz.underlying22 ⟨b, off, none⟩ _ c _ (ics_len _) (fun j u hu => ?_) (ics_one _)
    have hj : j < (ics (x :: l)).length := (List.getElem?_eq_some_iff.1 hu).1
    rw [ics_len] at hj
    have hi : j / 7 < (x :: l).length := by omega
    have hm : j % 7 < 7 := Nat.mod_lt _ (by omega)
    have ej : j = j / 7 * 7 + j % 7 := by omega
    rw [ej, ics_at _ _ _ hi hm] at hu
    obtain ⟨b', off', e, _, hc⟩ := h3 (j / 7) hi
    cases e
    rw [addr_plainI]
    have := hc (j % 7) u hu
    rw [show off + j = off + j / 7 * 7 + j % 7 by omega]
    exact this
theorem infoIn : (Tryz.prog.info? 44).map (fun i => (i.zero, i.size, i.bytes)) = some (some (.agg #[.int .i64 0, .int .i64 0, .int .i64 0, .int .i64 0, .int .i64 0, .int .i64 0, .string ByteArray.empty]), 7, 64) := by kernel_rfl
theorem appI (w : World) (base : Nat) (v x : Value) (l k : List In) (hO : OwnI w base v l) (hs : Ins w x k) (hb : base ≤ w.heap.size) (hl : l.length + k.length ≤ 1000000000) :
    ∃ v' w', (Builtin.append_ #[22, 22] 22 #[v, x]).run Tryz.prog w = .ok v' w' ∧ OwnI w' base v' (l ++ k) ∧ w.grownBy w' v.ownBlock ∧ (v'.ownBlock = v.ownBlock ∨ v'.ownBlock = some w.heap.size) := by
  obtain ⟨v', w', h1, h2, h3, h4⟩ := iapp_row 22 44 22 _ 7 64 Tryz.underlying22 infoIn rfl (by omega) w base v _ _ x _ _ hO hs.src hb hl
  refine ⟨v', w', h1, ?_, h3, h4⟩
  unfold OwnI
  rw [List.length_append, ics_append]
  exact h2
theorem cut_nat (cut : Int) (n : Nat) (hn : n ≤ 17280) : ∃ K : Nat, K ≤ n ∧ wrap64 ((IntKind.u64.wrap cut).tmod ((n : Int) + 1)) = (K : Int) := by
  refine ⟨((cut % 18446744073709551616) % ((n : Int) + 1)).toNat, ?_, ?_⟩
  · have h1 := Int.emod_lt_of_pos (cut % 18446744073709551616) (by omega : (0 : Int) < (n : Int) + 1)
    have h2 := Int.emod_nonneg (cut % 18446744073709551616) (by omega : (n : Int) + 1 ≠ 0)
    omega
  · rw [IntKind.wrap_u64, Int.tmod_eq_emod_of_nonneg (by omega)]
    have h1 := Int.emod_lt_of_pos (cut % 18446744073709551616) (by omega : (0 : Int) < (n : Int) + 1)
    have h2 := Int.emod_nonneg (cut % 18446744073709551616) (by omega : (n : Int) + 1 ≠ 0)
    generalize cut % 18446744073709551616 % ((n : Int) + 1) = z at *
    unfold wrap64
    omega

end Go.Proofs.YtpoahegccjgnjaaGreatDoor
