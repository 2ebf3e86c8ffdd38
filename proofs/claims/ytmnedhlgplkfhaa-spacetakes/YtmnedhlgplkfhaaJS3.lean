/- Contracts, over the turned program: the document's piece of work (factotumref08): Begin, Back. Conditions: those that each theorem states. Contracts, over the turned program: the document's piece of work (factotumref08): Begin, Back. Conditions: those that each theorem states. Contract, over the turned program: the document's piece of work (factotumref08): Save. Conditions: those that the theorem states. Contract, over the turned program: the document's piece of work (factotumref08): Changed. Conditions: those that the theorem states. Contract, over the turned program: the document's piece of work (factotumref08): Commit. Conditions: those that the theorem states. What a piece of work commits, as changes of pages: plain mathematics, nothing of the program. Conditions: those that each theorem states. -/
import Derived.Test.YtmnedhlgplkfhaaJS2
import Derived.Deep.RegionLaw
import Derived.Test.YtmnedhlgplkfhaaJP3
namespace Go.Proofs.Ytmnedhlgplkfhaa
open Go.RowKit
set_option linter.unusedVariables false

/-- An append to a row of one cell an element that a call itself has laid, also of none to none. -/
theorem app_own {α : Type} (f : α → Value) (t e ty : TypeId) (z : Value) (by_ : Nat) (ht : Try.prog.underlying t = some (.slice e)) (hinfo : (Try.prog.info? e).map (fun i => (i.zero, i.size, i.bytes)) = some (some z, 1, by_)) (hzc : z.cells.size = 1) (hby : by_ ≤ 64)
    (w : World) (base : Nat) (v : Value) (l : List α) (x : Value) (k : List α) (hO : Ow f e w base v l) (hs : Src Try.prog 1 t x k.length (k.map f) w) (hb : base ≤ w.heap.size) (hl : l.length + k.length ≤ 1000000) :
    ∃ v' w', (Builtin.append_ #[t, t] ty #[v, x]).run Try.prog w = .ok v' w' ∧ Ow f e w' base v' (l ++ k) ∧ w.grownBy w' v.ownBlock ∧ (v'.ownBlock = v.ownBlock ∨ v'.ownBlock = some w.heap.size) := by
  obtain ⟨i0, hi, hz0, hz1, hz2⟩ := info_parts hinfo
  by_cases h0 : 0 < l.length + k.length
  · obtain ⟨v', w', h1, h2, h3, h4⟩ := run_append_own_row (P := Try.prog) w base t t ty e i0 z 1 by_ ht hi hz0 hzc hz1 hz2 v l.length (l.map f) hO x k.length (k.map f) hs h0 (by
      have : (l.length + k.length) * by_ ≤ 1000000 * 64 := Nat.mul_le_mul hl hby
      omega) (by unfold maxLen; omega) hb
    refine ⟨v', w', h1, ?_, h3, h4⟩
    unfold Ow
    rw [List.length_append, List.map_append]
    exact h2
  · have hl0 : l = [] := List.eq_nil_of_length_eq_zero (by omega)
    have hk0 : k = [] := List.eq_nil_of_length_eq_zero (by omega)
    subst hl0 hk0
    have hs' : Src Try.prog i0.size t x 0 [] w := by rw [hz1]; exact hs
    have hf := hs'.cells
    refine ⟨v, w, ?_, hO, ⟨rfl, rfl, rfl, Nat.le_refl _, fun _ _ _ => rfl⟩, .inl rfl⟩
    rcases hO.2 with ⟨rfl, _⟩ | ⟨g, cap, cur, rfl, _⟩
    · simp [Builtin.append_, run_underlying ht, sizeOf, typeInfo, hi, hs'.len, hf]
    · simp [Builtin.append_, run_underlying ht, sizeOf, typeInfo, hi, hs'.len, hf, Addr.add_lit, storeCells]
theorem rwp_app_at {P : Program} {w : World} {o : Oper} {a : Act} {K : Act → World → Prop} {Q : Exit → Act → World → Prop} (s x : Operand) (t tx : TypeId)
    (ho : o.op = .call { callee := .builtin .append, args := #[s, x], argTypes := #[t, tx] }) (v xv : Value) (hs : a.eval s = v) (hx : a.eval x = xv) {v' : Value} {w' : World}
    (hr : (Builtin.append_ #[t, tx] o.type #[v, xv]).run P w = .ok v' w') (h : K (a.put o.dst v') w') : o.wp P a w K Q := by
  unfold Oper.wp execOp
  simp only [ho, resolve, invoke, builtin, Sem.run_bind, Sem.run_pure, Result.andThen_ok, List.map_toArray, List.map_cons, List.map_nil, hs, hx, hr]
  exact h
theorem rwpList_app_at {P : Program} {w : World} {ops : Array Oper} {rest : List Oper} {o : Oper} {a : Act} {Q : Exit → Act → World → Prop} (hgd : o.guard = none) (s x : Operand) (t tx : TypeId)
    (ho : o.op = .call { callee := .builtin .append, args := #[s, x], argTypes := #[t, tx] }) (v xv : Value) (hs : a.eval s = v) (hx : a.eval x = xv) {v' : Value} {w' : World}
    (hr : (Builtin.append_ #[t, tx] o.type #[v, xv]).run P w = .ok v' w') (h : wpList P ops Q rest (a.put o.dst v') w') : wpList P ops Q (o :: rest) a w :=
  wpList_plain hgd fun _ hK => rwp_app_at s x t tx ho v xv hs hx hr (hK _ _ h)
theorem rpstep_app_at {P : Program} {w : World} {ops : Array Oper} {o : Oper} {a : Act} {K : Act → World → Prop} {Q : Exit → Act → World → Prop} {E : Prop} (hgd : o.guard = none) (s x : Operand) (t tx : TypeId)
    (ho : o.op = .call { callee := .builtin .append, args := #[s, x], argTypes := #[t, tx] }) (v xv : Value) (hs : a.eval s = v) (hx : a.eval x = xv) {v' : Value} {w' : World}
    (hr : (Builtin.append_ #[t, tx] o.type #[v, xv]).run P w = .ok v' w') (h : K (a.put o.dst v') w') : if Region.wanted o (yielded ops a.tmps) = true then Oper.wp P o a w K Q else E := by
  have hw : Region.wanted o (yielded ops a.tmps) = true := by simp [Region.wanted, hgd]
  rw [if_pos hw]
  exact rwp_app_at s x t tx ho v xv hs hx hr h
/-- Texts in memory, as what is appended. -/
theorem Txs.src {G : Nat → Prop} {w : World} {v : Value} {l : List ByteArray} (h : Txs G w v l) : Src Try.prog 1 37 v l.length (l.map Value.string) w := by
  obtain ⟨a, c, rfl, h1, h2, h3⟩ := h
  cases l with
  | nil =>
    cases a with
    | none => exact Src.ofNil w Try.underlying37 c
    | some a => exact Src.ofSlice w Try.underlying37 a 0 c [] (by simp) (by simp) (by simp)
  | cons x l =>
    obtain ⟨b, off, rfl, _, _, _⟩ := h3 0 (by simp)
    refine Src.ofSlice w Try.underlying37 ⟨b, off, none⟩ _ c _ (by simp) (fun j u hu => ?_) (fun u hu => ?_)
    · rw [List.getElem?_map] at hu
      have hj : j < (x :: l).length := by
        cases hlt : (x :: l)[j]? with
        | none => rw [hlt] at hu; cases hu
        | some y => exact (List.getElem?_eq_some_iff.1 hlt).1
      obtain ⟨b', off', he, _, _, hc⟩ := h3 j hj
      cases he
      rw [List.getElem?_eq_getElem hj] at hu
      have plain : (⟨b, off, none⟩ : Addr).add j = ⟨b, off + j, none⟩ := by unfold Addr.add; split <;> simp_all
      rw [plain, hc]
      exact hu
    · obtain ⟨y, _, rfl⟩ := List.mem_map.1 hu
      rfl
/-- A copy of texts. -/
theorem copy_txs (w : World) {G : Nat → Prop} {v : Value} {Q : List ByteArray} (h : Txs G w v Q) (h0 : 0 < Q.length) (h1 : Q.length ≤ 160) :
    ∃ g c w', (Builtin.append_ #[37, 37] 37 #[.slice none 0 0, v]).run Try.prog w = .ok (.slice (some ⟨g, 0, none⟩) Q.length c) w' ∧ Ow Value.string 9 w' w.heap.size (.slice (some ⟨g, 0, none⟩) Q.length c) Q ∧ w.heap.size ≤ g ∧ g < w'.heap.size ∧ Kp none' w w' := by
  obtain ⟨v', w', a1, a2, a3, a4⟩ := app_own Value.string 37 9 37 _ 16 Try.underlying37 infoStr (by rfl) (by omega) w w.heap.size (.slice none 0 0) [] v Q (Ow.nil _ _ _ _) h.src (Nat.le_refl _) (by simp only [List.length_nil]; omega)
  rw [List.nil_append] at a2
  rcases a2.shape with ⟨e1, e2⟩ | ⟨g, c, rfl, e2, e3, _⟩
  · rw [e2] at h0; exact absurd h0 (by simp)
  · exact ⟨g, c, w', a1, a2, e2, e3, Kp.ofGrown a3 (fun k he _ => by cases he)⟩

end Go.Proofs.Ytmnedhlgplkfhaa

namespace Go.Proofs.Ytmnedhlgplkfhaa
open Go.RowKit
set_option linter.unusedVariables false

theorem Ow.takeN {α : Type} {f : α → Value} {e : TypeId} {w : World} {base g n cap : Nat} {l : List α} (h : Ow f e w base (.slice (some ⟨g, 0, none⟩) n cap) l) (hn : n = l.length) (k : Nat) (hk : k ≤ l.length) : Ow f e w base (.slice (some ⟨g, 0, none⟩) k cap) (l.take k) := by
  have e1 : (l.take k).length = k := by rw [List.length_take]; omega
  rcases h.2 with ⟨h1, _⟩ | ⟨g', cap', cur, h1, hb, hg, h2, h3, h4, h5⟩
  · cases h1
  · cases h1
    unfold Ow
    rw [e1]
    refine ⟨by rw [List.length_map, e1]; omega, .inr ⟨g, cap, cur, rfl, hb, hg, by omega, h3, h4, ?_⟩⟩
    have : (cur.toList.take (l.length * 1)).take k = (l.map f).take k := by rw [h5]
    rw [List.take_take, Nat.min_eq_left (by omega)] at this
    rw [Nat.mul_one, this, List.map_take]
end Go.Proofs.Ytmnedhlgplkfhaa

namespace Go.Proofs.Ytmnedhlgplkfhaa
open Go.RowKit
set_option linter.unusedVariables false

theorem infoSs : (Try.prog.info? 37).map (fun i => (i.zero, i.size, i.bytes)) = some (some (.slice none 0 0), 1, 24) := by kernel_rfl
end Go.Proofs.Ytmnedhlgplkfhaa

namespace Go.Proofs.Ytmnedhlgplkfhaa
open Go.RowKit
set_option linter.unusedVariables false

/-- Which of the first k pages are changed. -/
def chgK (b l : List ByteArray) (k : Nat) : List Int := ((List.range k).filter (fun i => isU l i && decide (l.getD i ⟨#[]⟩ ≠ b.getD i ⟨#[]⟩))).map (fun i : Nat => (i : Int))
theorem chgK_succ (b l : List ByteArray) (k : Nat) : chgK b l (k + 1) = chgK b l k ++ (if (isU l k && decide (l.getD k ⟨#[]⟩ ≠ b.getD k ⟨#[]⟩)) = true then [(k : Int)] else []) := by
  unfold chgK
  rw [List.range_succ, List.filter_append, List.map_append]
  congr 1
  by_cases h : (isU l k && decide (l.getD k ⟨#[]⟩ ≠ b.getD k ⟨#[]⟩)) = true
  · rw [if_pos h]
    simp only [List.filter_cons, h, if_true, List.filter_nil, List.map_cons, List.map_nil]
  · rw [if_neg h]
    have h' : (isU l k && decide (l.getD k ⟨#[]⟩ ≠ b.getD k ⟨#[]⟩)) = false := by simpa using h
    simp only [List.filter_cons, h', if_false, List.filter_nil, List.map_nil, Bool.false_eq_true]
theorem chgK_len (b l : List ByteArray) (k : Nat) : (chgK b l k).length ≤ k := by
  unfold chgK
  rw [List.length_map]
  exact Nat.le_trans (List.length_filter_le _ _) (by simp)
theorem list_beq_ne {x y : ByteArray} (h : x ≠ y) : (x.toList == y.toList) = false := by
  cases hb : (x.toList == y.toList) with
  | false => rfl
  | true => exact absurd (bytes_eq (eq_of_beq hb)) h
end Go.Proofs.Ytmnedhlgplkfhaa

namespace Go.Proofs.Ytmnedhlgplkfhaa
open Go.RowKit
set_option linter.unusedVariables false

/-- The pages behind the first changes. -/
def putK (now Q : List ByteArray) (l : List Nat) : List ByteArray := l.foldl (fun q i => q.set i (now.getD i ⟨#[]⟩)) Q
theorem putK_len (now : List ByteArray) (l : List Nat) : ∀ Q, (putK now Q l).length = Q.length := by
  induction l with
  | nil => intro Q; rfl
  | cons c l ih => intro Q; show (putK now _ l).length = _; rw [ih, List.length_set]
theorem putK_take (now Q : List ByteArray) (l : List Nat) (k : Nat) (h : k < l.length) : putK now Q (l.take (k + 1)) = (putK now Q (l.take k)).set l[k] (now.getD l[k] ⟨#[]⟩) := by
  rw [List.take_succ_eq_append_getElem h]
  unfold putK
  rw [List.foldl_append]
  rfl
theorem chgs_lt (b l : List ByteArray) (k : Nat) (h : k < (chgs b l).length) : (chgs b l)[k] < l.length := by
  have h1 := List.getElem_mem h
  unfold chgs at h1
  exact List.mem_range.1 (List.mem_filter.1 h1).1
theorem Rw.setOver {w w' : World} {r gN : Nat} {G : Nat → Prop} {S : Sw} (H : Rw w r gN G S) (hp : Put w w' r 3 (.bool true)) : Rw w' r gN G { S with over := true } := by
  obtain ⟨cN, b1, b2⟩ := H.c1
  obtain ⟨u, us, d1, d2, d3, d4, d5, v, a1, a2⟩ := H.c2
  have old : ∀ j x, j ≠ 3 → w.cell? ⟨r, j, none⟩ = some x → w'.cell? ⟨r, j, none⟩ = some x := fun j x h hx => by rw [hp.old _ _ (.inr h)]; exact hx
  exact ⟨⟨cN, old 1 _ (by omega) b1, b2.kept hp.kp (fun k hk e => by cases hk; exact H.gg.2 e)⟩, ⟨u, us, old 2 _ (by omega) d1, d2.kept hp.kp (fun k hk e => (d3 k hk).2.1 e), d3, d4, fun i h h' => (d5 i h h').kept hp.kp (fun k hk e => hk.2.1 e), v, old 0 _ (by omega) a1, a2.kept hp.kp (fun k hk e => hk.2.1 e)⟩,
    hp.same, fun j => by rw [hp.fr]; exact H.fr j, H.gg, H.l0, H.l1, H.sz, H.bl, H.nt⟩
end Go.Proofs.Ytmnedhlgplkfhaa

namespace Go.Proofs.Ytmnedhlgplkfhaa
set_option linter.unusedVariables false

/-- The changes: page by page what is there now. -/
def chgC (now : List ByteArray) (l : List Nat) : List Chg := l.map (fun i : Nat => ⟨(i : Int), now.getD i ⟨#[]⟩⟩)
theorem chgC_len (now : List ByteArray) (l : List Nat) : (chgC now l).length = l.length := by simp [chgC]
theorem chgC_pages (now : List ByteArray) (l : List Nat) : (chgC now l).map Chg.page = l.map (fun i : Nat => (i : Int)) := by simp [chgC, Function.comp_def]
theorem putK_withL (now : List ByteArray) (l : List Nat) : ∀ Q, putK now Q l = withL Q (chgC now l) := by
  induction l with
  | nil => intro Q; rfl
  | cons i l ih =>
    intro Q
    show putK now (Q.set i _) l = withL (Q.set (Int.toNat (i : Int)) _) (chgC now l)
    rw [ih, Int.toNat_natCast]
theorem chgs_mem {b l : List ByteArray} {i : Nat} (h : i ∈ chgs b l) : i < l.length := by
  unfold chgs at h
  exact List.mem_range.1 (List.mem_filter.1 h).1
theorem chgs_nodup (b l : List ByteArray) : (chgs b l).Nodup := by
  unfold chgs
  exact List.Pairwise.filter _ List.nodup_range
theorem chgC_sizes {b now : List ByteArray} (hs : ∀ x ∈ now, x.size = 256) : ∀ c ∈ chgC now (chgs b now), c.data.size = 256 := fun c hc => by
  unfold chgC at hc
  obtain ⟨i, hi, rfl⟩ := List.mem_map.1 hc
  have hl := chgs_mem hi
  show (now.getD i _).size = 256
  rw [List.getD_eq_getElem?_getD, List.getElem?_eq_getElem hl]
  exact hs _ (List.getElem_mem hl)
theorem chgC_i64 {b now : List ByteArray} (hl : now.length ≤ 160) : i64s ((chgC now (chgs b now)).map Chg.page) := by
  rw [chgC_pages]
  intro z hz
  obtain ⟨i, hi, rfl⟩ := List.mem_map.1 hz
  have := chgs_mem hi
  omega
theorem chgC_right (b now : List ByteArray) : rightE now.length (chgC now (chgs b now)) = if 31 < (chgs b now).length then 3 else 0 := by
  unfold rightE
  rw [chgC_len, chgC_pages]
  by_cases h : 31 < (chgs b now).length
  · rw [if_pos h, if_pos h]
  · rw [if_neg h, if_neg h]
    have h1 : allB now.length ((chgs b now).map (fun i : Nat => (i : Int))) = true := by
      unfold allB
      refine List.all_eq_true.2 (fun z hz => ?_)
      obtain ⟨i, hi, rfl⟩ := List.mem_map.1 hz
      have := chgs_mem hi
      unfold hasB
      simp
      omega
    have h2 : ((chgs b now).map (fun i : Nat => (i : Int))).Nodup := List.Pairwise.map _ (fun a b h e => h (by have e' : (a : Int) = (b : Int) := e; omega)) (chgs_nodup b now)
    rw [if_pos h1, if_pos h2]
/-- What is committed. -/
theorem putK_pgF {b now Q : List ByteArray} (hQ : Q.length = now.length) : pgF (putK now Q (chgs b now)) = withC (pgF Q) (chgC now (chgs b now)) := by
  rw [putK_withL]
  refine withL_pgF _ _ (fun c hc => ?_)
  unfold chgC at hc
  obtain ⟨i, hi, rfl⟩ := List.mem_map.1 hc
  have := chgs_mem hi
  exact ⟨by show (0 : Int) ≤ (i : Int); omega, by show (i : Int) < _; omega⟩
theorem putK_sizes {b now Q : List ByteArray} (hs : ∀ x ∈ now, x.size = 256) (hq : ∀ x ∈ Q, x.size = 256) : ∀ x ∈ putK now Q (chgs b now), x.size = 256 := by
  rw [putK_withL]
  exact withL_sizes hq (chgC_sizes hs)

end Go.Proofs.Ytmnedhlgplkfhaa
