/- What Reached finds, in plain words, and contract, over the turned program: check.Reached tells which instructions can be come to. Conditions: those that each theorem states. -/
import Derived.Test.YtnldjloiafilmaaDoorQG
import Derived.Deep.LoopGhost
namespace Go.Proofs.YtnldjloiafilmaaDoor
open Go.RowKit
set_option linter.unusedVariables false

def bl (n : Nat) (out : Nat → Bool) : List Bool := (List.range n).map out
def upB (out : Nat → Bool) (k : Nat) : Nat → Bool := fun j => out j || j == k
theorem bl_len (n : Nat) (out : Nat → Bool) : (bl n out).length = n := by simp [bl]
theorem bl_at (n : Nat) (out : Nat → Bool) (j : Nat) (h : j < (bl n out).length) : (bl n out)[j] = out j := by simp [bl]
theorem bl_set (n : Nat) (out : Nat → Bool) (k : Nat) : (bl n out).set k true = bl n (upB out k) := by
  refine List.ext_getElem (by simp [bl_len]) (fun j h1 h2 => ?_)
  rw [bl_at, List.getElem_set]
  unfold upB
  split
  · next h => subst h; simp
  · next h =>
    rw [bl_at]
    have : (j == k) = false := by rw [beq_eq_false_iff_ne]; omega
    rw [this, Bool.or_false]
theorem bl_none (n : Nat) : bl n (fun _ => false) = List.replicate n false := by
  refine List.ext_getElem (by simp [bl_len]) (fun j h1 h2 => ?_)
  rw [bl_at, List.getElem_replicate]
/-- Where the k-th instruction goes on, in the program's order. -/
def ldN (l : List In) (k : Nat) : List Nat := (if endsI (l.getD k d0) then [] else [k + 1]) ++ (if hasT (l.getD k d0) then [(l.getD k d0).a.toNat] else [])
theorem ldN_mem (l : List In) (k j : Nat) : j ∈ ldN l k ↔ j ∈ scI l k := by
  unfold ldN scI
  rw [List.mem_append, List.mem_append]
  exact Or.comm
theorem ldN_len (l : List In) (k : Nat) : (ldN l k).length ≤ 2 := by
  unfold ldN
  rw [List.length_append]
  split <;> split <;> simp
theorem ldI_nat {l : List In} (h : RunOk l) (k : Nat) (hk : k < l.length) : ldI (l.getD k d0) k = (ldN l k).map (fun j : Nat => (j : Int)) := by
  have ho := List.all_eq_true.1 h.ok _ (getD_mem hk d0)
  have hb := of_decide_eq_true (fit_lt (okI_parts ho).2.1).1
  unfold ldI ldN
  generalize l.getD k d0 = x at *
  rw [List.map_append]
  congr 1
  · split <;> simp
  · split
    · simp; omega
    · rfl
structure RInv (l : List In) (out : Nat → Bool) (td : List Nat) : Prop where
  rc : ∀ i, out i = true → Rch (scI l) i ∧ i < l.length
  tr : ∀ t ∈ td, Rch (scI l) t ∧ t < l.length
  cl : ∀ i, out i = true → ∀ k ∈ scI l i, out k = true ∨ k ∈ td
  z : out 0 = true ∨ 0 ∈ td
theorem rinv_init {l : List In} (h : RunOk l) : RInv l (fun _ => false) [0] :=
  ⟨fun i h => (by cases h), fun t ht => (by rw [List.mem_singleton.1 ht]; exact ⟨Rch.zero, h.l0⟩), fun i h => (by cases h), .inr (by simp)⟩
theorem rinv_old {l : List In} {out : Nat → Bool} {td : List Nat} {k : Nat} (h : RInv l out (td ++ [k])) (hk : out k = true) : RInv l out td := by
  refine ⟨h.rc, fun t ht => h.tr t (by simp [ht]), fun i hi j hj => ?_, ?_⟩
  · rcases h.cl i hi j hj with h1 | h1
    · exact .inl h1
    · rcases List.mem_append.1 h1 with h2 | h2
      · exact .inr h2
      · rw [List.mem_singleton.1 h2]; exact .inl hk
  · rcases h.z with h1 | h1
    · exact .inl h1
    · rcases List.mem_append.1 h1 with h2 | h2
      · exact .inr h2
      · rw [List.mem_singleton.1 h2]; exact .inl hk
theorem rinv_new {l : List In} {out : Nat → Bool} {td : List Nat} {k : Nat} (hr : RunOk l) (h : RInv l out (td ++ [k])) : RInv l (upB out k) (td ++ ldN l k) := by
  obtain ⟨k1, k2⟩ := h.tr k (by simp)
  have hup : ∀ i, upB out k i = true → out i = true ∨ i = k := fun i hi => by
    unfold upB at hi
    rw [Bool.or_eq_true] at hi
    rcases hi with h1 | h1
    · exact .inl h1
    · exact .inr (by simpa using h1)
  have hold : ∀ i, out i = true → upB out k i = true := fun i hi => by unfold upB; rw [hi, Bool.true_or]
  have hself : upB out k k = true := by unfold upB; simp
  refine ⟨fun i hi => ?_, fun t ht => ?_, fun i hi j hj => ?_, ?_⟩
  · rcases hup i hi with h1 | h1
    · exact h.rc i h1
    · rw [h1]; exact ⟨k1, k2⟩
  · rcases List.mem_append.1 ht with h1 | h1
    · exact h.tr t (by simp [h1])
    · have h2 := (ldN_mem l k t).1 h1
      exact ⟨Rch.go k t k1 h2, sc_lt hr k k2 t h2⟩
  · rcases hup i hi with h1 | h1
    · rcases h.cl i h1 j hj with h2 | h2
      · exact .inl (hold j h2)
      · rcases List.mem_append.1 h2 with h3 | h3
        · exact .inr (by simp [h3])
        · rw [List.mem_singleton.1 h3]; exact .inl hself
    · rw [h1] at hj
      exact .inr (by rw [List.mem_append]; exact .inr ((ldN_mem l k j).2 hj))
  · rcases h.z with h1 | h1
    · exact .inl (hold 0 h1)
    · rcases List.mem_append.1 h1 with h2 | h2
      · exact .inr (by simp [h2])
      · rw [List.mem_singleton.1 h2]; exact .inl hself
theorem rinv_end {l : List In} {out : Nat → Bool} (hr : RunOk l) (h : RInv l out []) : bl l.length out = rchI l := by
  have hz : out 0 = true := by rcases h.z with h1 | h1; exact h1; cases h1
  have hall : ∀ i, Rch (scI l) i → out i = true := fun i hi => (hi (fun i => out i = true) hz (fun i j h1 hj => by rcases h.cl i h1 j hj with h2 | h2; exact h2; cases h2))
  refine List.ext_getElem (by rw [bl_len]; simp [rchI]) (fun j h1 h2 => ?_)
  rw [bl_at]
  have hj : j < l.length := by rw [bl_len] at h1; exact h1
  have e := rchI_at hr j hj
  rw [List.getElem?_eq_getElem h2] at e
  rw [Bool.eq_iff_iff]
  constructor
  · intro h3
    have := e.2 (h.rc j h3).1
    simpa using this
  · intro h3
    exact hall j (e.1 (by rw [h3]))
theorem cnt_up (n : Nat) (out : Nat → Bool) (k : Nat) (hk : k < n) (h : out k = false) : cntF n out < cntF n (upB out k) :=
  filt_lt _ (fun j _ hj => by unfold upB; rw [hj, Bool.true_or]) ⟨k, List.mem_range.2 hk, h, by unfold upB; simp⟩
/-- What Reached answers, of any program. -/
def reI (l : List In) : List Bool := if (chkI l).1 = 0 then rchI l else []

theorem Ow.cellQ {α : Type} {f : α → Value} {e : TypeId} {w : World} {base g n cap : Nat} {l : List α} (h : Ow f e w base (.slice (some ⟨g, 0, none⟩) n cap) l) (j : Nat) (hj : j < l.length) : w.cell? ⟨g, j, none⟩ = some (f l[j]) ∧ w.frozen? ⟨g, j, none⟩ = false := by
  have hn : n = l.length := by
    rcases h.2 with ⟨h1, _⟩ | ⟨g', cap', cur, h1, _⟩
    · cases h1
    · cases h1; rfl
  subst hn
  refine ⟨?_, World.ownsRow.frozenAt (g := g) (cap := cap) h j⟩
  rw [World.ownsRow.cellAt (g := g) (cap := cap) h j (by omega)]
  simp [hj]
theorem Ow.takeQ {α : Type} {f : α → Value} {e : TypeId} {w : World} {base g n cap : Nat} {l m : List α} (h : Ow f e w base (.slice (some ⟨g, 0, none⟩) n cap) (l ++ m)) : Ow f e w base (.slice (some ⟨g, 0, none⟩) l.length cap) l := by
  rcases h.2 with ⟨h1, _⟩ | ⟨g', cap', cur, h1, hb, hg, h2, h3, h4, h5⟩
  · cases h1
  · cases h1
    rw [List.length_append] at h2
    refine ⟨by simp, .inr ⟨g, cap, cur, rfl, hb, hg, by omega, h3, h4, ?_⟩⟩
    have : (cur.toList.take ((l ++ m).length * 1)).take l.length = ((l ++ m).map f).take l.length := by rw [h5]
    rw [List.take_take, Nat.min_eq_left (by rw [List.length_append]; omega), List.map_append, List.take_left' (by simp)] at this
    rw [Nat.mul_one]
    exact this
theorem Ow.monoQ {α : Type} {f : α → Value} {e : TypeId} {w : World} {base base' : Nat} {v : Value} {l : List α} (h : Ow f e w base v l) (hb : base' ≤ base) : Ow f e w base' v l := by
  refine ⟨h.1, ?_⟩
  rcases h.2 with hn | ⟨g, cap, cur, rfl, hb2, rest⟩
  · exact .inl hn
  · exact .inr ⟨g, cap, cur, rfl, by omega, rest⟩
theorem Ow.block {α : Type} {f : α → Value} {e : TypeId} {w : World} {base : Nat} {v : Value} {l : List α} (h : Ow f e w base v l) (hl : l ≠ []) : ∃ g cap, v = .slice (some ⟨g, 0, none⟩) l.length cap ∧ l.length ≤ cap ∧ base ≤ g ∧ g < w.heap.size := by
  rcases h.2 with ⟨_, h2⟩ | ⟨g, cap, cur, h1, hb, hg, h2, _⟩
  · exact absurd (List.eq_nil_of_length_eq_zero h2) hl
  · exact ⟨g, cap, h1, h2, hb, (Array.getElem?_eq_some_iff.1 hg).1⟩
theorem infoB : (Tryd.prog.info? 4).map (fun i => (i.zero, i.size, i.bytes)) = some (some (.bool false), 1, 1) := by kernel_rfl
theorem make_bools (w : World) (n : Nat) (hn : n ≤ 1000000) : ∃ wa, (Instr.makeSlice 53 (.int .i64 n) (.int .i64 n)).run Tryd.prog w = .ok (.slice (some ⟨w.heap.size, 0, none⟩) n n) wa ∧ Ow Value.bool 4 wa w.heap.size (.slice (some ⟨w.heap.size, 0, none⟩) n n) (bl n (fun _ => false)) ∧ w.grownBy wa none := by
  obtain ⟨i0, hi, hz0, hz1, hz2⟩ := info_parts infoB
  obtain ⟨wa, hmk, hOa, hga⟩ := run_make_full (P := Tryd.prog) w w.heap.size 53 4 i0 _ 1 Tryd.underlying53 hi hz0 hz1 .i64 .i64 n (by rw [hz2]; omega) (by unfold maxLen; omega) (Nat.le_refl _)
  refine ⟨wa, hmk, ?_, hga⟩
  have e : (madeCells (Value.bool false).cells (n * 1)).toList = (List.replicate n false).map Value.bool := by
    show (madeCells #[Value.bool false] (n * 1)).toList = _
    rw [toList_madeCells_one]
    simp
  rw [bl_none]
  unfold Ow
  rw [List.length_replicate, ← e]
  exact hOa
theorem app_ints2 (w : World) (base : Nat) (v x : Value) (l k : List Int) (B : Nat) (hO : Ow (Value.int .i64) 3 w base v l) (hs : Sl (Value.int .i64) B w x k) (hb : base ≤ w.heap.size) (hl : l.length + k.length ≤ 1000000) :
    ∃ v' w', (Builtin.append_ #[55, 55] 55 #[v, x]).run Tryd.prog w = .ok v' w' ∧ Ow (Value.int .i64) 3 w' base v' (l ++ k) ∧ w.grownBy w' v.ownBlock ∧ (v'.ownBlock = v.ownBlock ∨ v'.ownBlock = some w.heap.size) := by
  obtain ⟨v', w', h1, h2, h3, h4⟩ := iapp_row 55 3 55 _ 1 8 Tryd.underlying55 infoI rfl (by omega) w base v _ _ x _ _ hO hs.srcI hb (by omega)
  refine ⟨v', w', h1, ?_, h3, h4⟩
  unfold Ow
  rw [List.length_append, List.map_append]
  exact h2

end Go.Proofs.YtnldjloiafilmaaDoor
