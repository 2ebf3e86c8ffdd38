/- Contract, over the turned program: what is left of messages of which the first go. Conditions: those that each theorem states. -/
import Derived.Test.YtamgnpmkmlhadaaOFrom
namespace Go.Proofs.Ytamgnpmkmlhadaa
open Go Go.RowKit
set_option linter.unusedVariables false

theorem wpList_clr_at {P : Program} {w : World} {ops : Array Oper} {rest : List Oper} {o : Oper} {a : Act} {Q : Exit → Act → World → Prop} (hgd : o.guard = none) (s : Operand) (t : TypeId)
    (ho : o.op = .call { callee := .builtin .clear, args := #[s], argTypes := #[t] }) (v : Value) (hs : a.eval s = v) {v' : Value} {w' : World}
    (hr : (Builtin.clear_ #[t] o.type #[v]).run P w = .ok v' w') (h : wpList P ops Q rest (a.put o.dst v') w') : wpList P ops Q (o :: rest) a w := by
  refine wpList_plain hgd fun K hK => ?_
  unfold Oper.wp execOp
  simp only [ho, resolve, invoke, builtin, Sem.run_bind, Sem.run_pure, Result.andThen_ok, List.map_toArray, List.map_cons, List.map_nil, hs, hr]
  exact hK _ _ h
theorem zeros_one (n : Nat) : ∀ u ∈ (Builtin.zeroCells (Value.agg #[.int .i64 0, .int .i64 0, .int .i64 0, .int .i64 0, .int .i64 0, .string ByteArray.empty]).cells n).toList, u.oneCell' = true := by
  intro u hu
  unfold Builtin.zeroCells at hu
  rw [Array.toList_map, List.mem_map] at hu
  obtain ⟨i, _, rfl⟩ := hu
  have hz : (Value.agg #[.int .i64 0, .int .i64 0, .int .i64 0, .int .i64 0, .int .i64 0, .string ByteArray.empty]).cells = #[.int .i64 0, .int .i64 0, .int .i64 0, .int .i64 0, .int .i64 0, .string ByteArray.empty] := rfl
  rw [hz]
  have h6 : i % 6 < 6 := Nat.mod_lt _ (by omega)
  show (#[Value.int .i64 0, .int .i64 0, .int .i64 0, .int .i64 0, .int .i64 0, .string ByteArray.empty][i % 6]!).oneCell' = true
  generalize i % 6 = k at h6
  have : k = 0 ∨ k = 1 ∨ k = 2 ∨ k = 3 ∨ k = 4 ∨ k = 5 := by omega
  rcases this with rfl | rfl | rfl | rfl | rfl | rfl <;> rfl
/-- The first n are cleared. -/
theorem run_clrM (w : World) (b off n cap : Nat) (ty : TypeId) (hn : 0 < n) (h : w.there b off (n * 6)) :
    ∃ w', (Builtin.clear_ #[39] ty #[.slice (some ⟨b, off, none⟩) n cap]).run Try.prog w = .ok (.tuple #[]) w' ∧ Kp (fun k => k = b) w w' ∧ (∀ j, (j < off ∨ off + n * 6 ≤ j) → w'.cell? ⟨b, j, none⟩ = w.cell? ⟨b, j, none⟩) ∧ ∀ j, w'.frozen? ⟨b, j, none⟩ = w.frozen? ⟨b, j, none⟩ := by
  obtain ⟨i0, hi, hz0, hz1, hz2⟩ := info_parts infoM
  obtain ⟨m, rfl⟩ : ∃ m, n = m + 1 := ⟨n - 1, by omega⟩
  obtain ⟨zs, hzs⟩ : ∃ zs, (Builtin.zeroCells (Value.agg #[.int .i64 0, .int .i64 0, .int .i64 0, .int .i64 0, .int .i64 0, .string ByteArray.empty]).cells (m + 1)) = zs := ⟨_, rfl⟩
  have hl : zs.toList.length = (m + 1) * 6 := by rw [← hzs, Array.length_toList, size_zeroCells]; rfl
  have h1 : ∀ u ∈ zs.toList, u.oneCell' = true := by rw [← hzs]; exact zeros_one _
  have hst := run_storeCells_cells (P := Try.prog) b off zs.toList 0 w (by rw [hl, Nat.add_zero]; exact fun j hj => (h j hj).1) (by rw [hl, Nat.add_zero]; exact fun j hj => (h j hj).2) h1
  rw [Nat.add_zero] at hst
  refine ⟨w.setCells b off zs.toList, ?_, Kp.setCells (S := fun k => k = b) b rfl _ _ _, fun j hj => ?_, fun j => World.frozen?_setCells _ _ _ _ _⟩
  · simp [Builtin.clear_, run_underlying Try.underlying39, zeroValue, typeInfo, hi, hz0, hzs, hst]
  · exact World.cell?_setCells_out b _ _ _ _ (fun _ _ => by rw [hl]; exact hj)

theorem OwO.moved {w w' : World} {b off n cap : Nat} {l : List Ms} (h : OwO w (.slice (some ⟨b, off, none⟩) n cap) l (some b)) (hs : w.heap.size ≤ w'.heap.size) (hc : ∀ j, off ≤ j → w'.cell? ⟨b, j, none⟩ = w.cell? ⟨b, j, none⟩) (hf : ∀ j, w'.frozen? ⟨b, j, none⟩ = w.frozen? ⟨b, j, none⟩) : OwO w' (.slice (some ⟨b, off, none⟩) n cap) l (some b) := by
  rcases h with ⟨e, _, _⟩ | ⟨b', off', cap', e1, e2, hb, h1, h2, h3, h4⟩
  · cases e
  · cases e1
    cases e2
    refine .inr ⟨b, off, cap, rfl, rfl, Nat.lt_of_lt_of_le hb hs, h1, h2, fun j u hu => ?_, fun j hj => ?_⟩
    · rw [hc _ (by omega)]
      exact h3 j u hu
    · rw [hc _ (by omega), hf]
      exact h4 j hj
/-- What is left, and in which block. -/
def Lft (w : World) (b : Nat) (l : List Ms) (e : Ending) (w' : World) : Prop := ∃ v, e = .returned v ∧ ∃ g, OwO w' v l g ∧ Kp (fun k => k = b) w w' ∧ (∀ k, g = some k → k = b ∨ w.heap.size ≤ k)
set_option maxRecDepth 100000 in
set_option maxHeartbeats 1600000 in
theorem obehind_any (b off cap n : Nat) (l : List Ms) (w : World) (h : OwO w (.slice (some ⟨b, off, none⟩) l.length cap) l (some b)) (h0 : 0 < n) (hn : n ≤ l.length) (hl : l.length ≤ 1000) :
    Calls Try.prog 38 #[.slice (some ⟨b, off, none⟩) l.length cap, .int .i64 (n : Int)] w fun e w' => Lft w b (l.drop n) e w' := by
  obtain ⟨hb, hlc, hcm, hth⟩ : b < w.heap.size ∧ l.length ≤ cap ∧ cap ≤ maxLen ∧ w.there b off (cap * 6) := by
    rcases h with ⟨e, _, _⟩ | ⟨b', off', cap', e1, e2, hb, h1, h2, h3, h4⟩
    · cases e
    · cases e1
      cases e2
      exact ⟨hb, h1, h2, h4⟩
  by_cases hs : n < l.length - n
  · have hD := h.drop n (by omega)
    obtain ⟨w2, hr, hk, hout, hfz⟩ := run_clrM w b off n cap 0 h0 (fun j hj => hth j (by have : n * 6 ≤ cap * 6 := Nat.mul_le_mul_right 6 (by omega); omega))
    have hD2 := hide (hD.moved hk.size (fun j hj => hout j (.inr (by omega))) hfz)
    have hK := hide hk
    clear hD hth h hk hout hfz
    have c1 : (n : Int) < (l.length : Int) - (n : Int) := by omega
    have c2 : (n : Int) ≤ (l.length : Int) := by omega
    have c3 : (n : Int) ≤ (cap : Int) := by omega
    have c4 : ¬ n = cap := by omega
    unfold maxLen at hcm
    obtain ⟨m, Hm⟩ : ∃ m, Hid (l.length = m) := ⟨_, rfl⟩
    rw [Hm.out] at hD2 c1 c2 hlc hl hn hs ⊢
    go_enter Try.func38, Try.ntmps38
    go_wp2
    go_ret
    exact ⟨_, rfl, _, hD2.out, hK.out, fun k e => .inl (by cases e; rfl)⟩
  · obtain ⟨ad, eA, hD⟩ : ∃ ad : Option Addr, (ad = if n = cap then some ⟨b, off, none⟩ else some ⟨b, off + n * 6, none⟩) ∧ RwM w (.slice ad (l.length - n) (cap - n)) (l.drop n) := by
      by_cases hc : n = cap
      · refine ⟨_, rfl, ?_⟩
        have e0 : l.length - n = 0 := by omega
        rw [e0]
        exact ⟨_, _, by rw [List.length_drop, e0], by rw [List.length_drop, e0]; exact Nat.zero_le _, by omega, fun i hi => by rw [List.length_drop, e0] at hi; omega⟩
      · refine ⟨_, rfl, ?_⟩
        rw [if_neg hc]
        have := h.rw.dropM n hn
        rw [show (some (⟨b, off, none⟩ : Addr)).map (fun x => x.add (n * 6)) = some ⟨b, off + n * 6, none⟩ by simp [addr_plainO]] at this
        exact this
    obtain ⟨v2, w2, hr, ho, hg, hv⟩ := appM w w.heap.size (.slice none 0 0) _ [] (l.drop n) OwR.nil hD (Nat.le_refl _) (by rw [List.length_drop]; simp; omega)
    rw [List.nil_append] at ho
    have HR : Hid (Lft w b (l.drop n) (.returned v2) w2) := ⟨_, rfl, _, ho.owo, Kp.ofGrown hg (fun k e _ => by cases e), fun k e => .inr (ho.lt k e).1⟩
    clear ho hg hv hD hth h
    have c1 : ¬ (n : Int) < (l.length : Int) - (n : Int) := by omega
    have c2 : (n : Int) ≤ (l.length : Int) := by omega
    have c3 : (n : Int) ≤ (cap : Int) := by omega
    unfold maxLen at hcm
    obtain ⟨m, Hm⟩ : ∃ m, Hid (l.length = m) := ⟨_, rfl⟩
    rw [Hm.out] at hr c1 c2 hlc hl hn hs ⊢
    by_cases hc : n = cap
    · rw [if_pos hc] at eA
      subst eA
      have c4 : cap = n := hc.symm
      subst c4
      have c5 : m = cap := by omega
      subst c5
      go_enter Try.func38, Try.ntmps38
      go_wp2
      go_ret
      rw [List.drop_of_length_le (by rw [Hm.out]; exact Nat.le_refl _)]
      exact ⟨_, rfl, none, OwO.nil _, Kp.refl _ _, fun k e => by cases e⟩
    · rw [if_neg hc] at eA
      subst eA
      go_enter Try.func38, Try.ntmps38
      go_wp2_with (at_builtin; refine wpList_app_at rfl (.const (.slice none 0 0)) (.tmp 17) 39 39 rfl _ _ rfl rfl hr ?_)
      go_ret
      exact HR.out

end Go.Proofs.Ytamgnpmkmlhadaa
