/- Contracts, over the turned program: what an entry says of its key; a table that is asked. Conditions: those that each theorem states. -/
import Derived.Test.YtpoahegccjgnjaaGreatDoorHJa
import Derived.Defers
import Derived.Recover
namespace Go.Proofs.YtpoahegccjgnjaaGreatDoor
open Go.RowKit
set_option linter.unusedVariables false

def obV (o : Option V) : V := o.getD ⟨0, 0, ⟨#[]⟩⟩
set_option maxRecDepth 100000 in
set_option maxHeartbeats 400000 in
theorem m_behind (x : Wr) (w : World) : Calls Tryz.prog 83 #[x.val] w fun e w' => e = .returned (.tuple #[(obV (beh x)).val, .bool (beh x).isSome]) ∧ w.grownBy w' none := by
  obtain ⟨k, v, gn⟩ := x
  have hga := World.grownBy_alloc w (.cells #[.int .i64 k.k, .int .i64 k.n, .string k.s, .int .i64 v.k, .int .i64 v.n, .string v.s, .bool gn] 62) none
  unfold Wr.val
  dsimp only
  cases gn with
  | true =>
    have hgb := World.grownBy_alloc (w.alloc (.cells #[.int .i64 k.k, .int .i64 k.n, .string k.s, .int .i64 v.k, .int .i64 v.n, .string v.s, .bool true] 62)) (.cells #[.int .i64 0, .int .i64 0, .string ⟨#[]⟩] 31) none
    have hV : Vb ((w.alloc (.cells #[.int .i64 k.k, .int .i64 k.n, .string k.s, .int .i64 v.k, .int .i64 v.n, .string v.s, .bool true] 62)).alloc (.cells #[.int .i64 0, .int .i64 0, .string ⟨#[]⟩] 31)) (w.heap.size + 1) ⟨0, 0, ⟨#[]⟩⟩ := by
      have := Vb.new (w.alloc (.cells #[.int .i64 k.k, .int .i64 k.n, .string k.s, .int .i64 v.k, .int .i64 v.n, .string v.s, .bool true] 62)) ⟨0, 0, ⟨#[]⟩⟩
      rw [World.size_alloc] at this
      exact this
    go_enter Tryz.func83, Tryz.ntmps83
    go_wp2
    refine bodyPost_ret (results_vb rfl _ (w.heap.size + 1) _ ⟨0, 0, ⟨#[]⟩⟩ _ rfl rfl hV) rfl ?_
    exact ⟨rfl, grown_up hga hgb⟩
  | false =>
    have hgb := World.grownBy_alloc (w.alloc (.cells #[.int .i64 k.k, .int .i64 k.n, .string k.s, .int .i64 v.k, .int .i64 v.n, .string v.s, .bool false] 62)) (.cells #[.int .i64 v.k, .int .i64 v.n, .string v.s] 31) none
    have hV : Vb ((w.alloc (.cells #[.int .i64 k.k, .int .i64 k.n, .string k.s, .int .i64 v.k, .int .i64 v.n, .string v.s, .bool false] 62)).alloc (.cells #[.int .i64 v.k, .int .i64 v.n, .string v.s] 31)) (w.heap.size + 1) v := by
      have := Vb.new (w.alloc (.cells #[.int .i64 k.k, .int .i64 k.n, .string k.s, .int .i64 v.k, .int .i64 v.n, .string v.s, .bool false] 62)) v
      rw [World.size_alloc] at this
      exact this
    go_enter Tryz.func83, Tryz.ntmps83
    go_wp2
    refine bodyPost_ret (results_vb rfl _ (w.heap.size + 1) _ v _ rfl rfl hV) rfl ?_
    exact ⟨rfl, grown_up hga hgb⟩

theorem results_cc {P : Program} {fn : Func} {p q : Tmp} {t1 t2 : TypeId} (h : fn.results = #[.cell p t1, .cell q t2]) (tmps : Array Value) (w : World) (a b : Addr) (x y : Value)
    (hp : tmps.getD p undef = .pointer (some a)) (hq : tmps.getD q undef = .pointer (some b)) (h1 : (loadVar t1 a).run P w = .ok x w) (h2 : (loadVar t2 b).run P w = .ok y w) : (results fn tmps).run P w = .ok (.tuple #[x, y]) w := by
  have hp' : tmps[p]?.getD undef = .pointer (some a) := by simpa using hp
  have hq' : tmps[q]?.getD undef = .pointer (some b) := by simpa using hq
  simp [results, h, hp', hq', asAddr, h1, h2, Result.andThen]
theorem load_bool {w : World} {b : Nat} {v : Bool} (hc : w.cell? ⟨b, 0, none⟩ = some (.bool v)) : (loadVar 4 ⟨b, 0, none⟩).run Tryz.prog w = .ok (.bool v) w := by
  go_simp
theorem vb_set {w : World} {b : Nat} {z : V} (h : Vb w b z) (x : V) : Vb (((w.setCell ⟨b, 0, none⟩ (.int .i64 x.k)).setCell ⟨b, 1, none⟩ (.int .i64 x.n)).setCell ⟨b, 2, none⟩ (.string x.s)) b x ∧
    w.grownBy (((w.setCell ⟨b, 0, none⟩ (.int .i64 x.k)).setCell ⟨b, 1, none⟩ (.int .i64 x.n)).setCell ⟨b, 2, none⟩ (.string x.s)) (some b) := by
  have g : ∀ (w : World) (o : Nat) (u : Value), w.grownBy (w.setCell ⟨b, o, none⟩ u) (some b) := fun w o u => ⟨rfl, rfl, rfl, by simp, fun k _ hk => heap_setCell_other w ⟨b, o, none⟩ k u (fun e => hk (by simp [e]))⟩
  have h1 := heap_setCell_same w b 0 _ _ (.int .i64 x.k) h
  have h2 := heap_setCell_same _ b 1 _ _ (.int .i64 x.n) h1
  have h3 := heap_setCell_same _ b 2 _ _ (.string x.s) h2
  exact ⟨h3, grown_trans (grown_trans (g _ _ _) (g _ _ _) (.inl rfl)) (g _ _ _) (.inl rfl)⟩
theorem ask_idle (p q : Addr) (w : World) :
    CallsD Tryz.prog 99 #[.pointer (some p), .pointer (some q)] .returning w fun e u' w' => e = .returned (.tuple #[]) ∧ u' = .returning ∧ w' = w := by
  refine callsD_of_wpS Tryz.func99 rfl fun c₀ cs hu => ?_
  apply wpS_seq
  apply wpS_region
  simp [wpOpsS, go_sem, recoverD, hu, Tryz.ntmps99, Exit.thenS]
  refine wpS_cond (t := false) (by simp [Act.eval, Array.replicate]) ?_
  simp only [Bool.false_eq_true, if_false]
  refine wpS_of_wp (wp_skip ?_)
  cases c₀
  simp_all [bodyPostS, results, Tryz.results99]

set_option maxRecDepth 100000 in
set_option maxHeartbeats 1000000 in
theorem m_ask_nil (k : V) (w : World) : Calls Tryz.prog 84 #[.nilIface, k.val] w fun e w' => e = .returned (.tuple #[(⟨0, 0, ⟨#[]⟩⟩ : V).val, .bool false]) ∧ w.grownBy w' none := by
  have hmf : ∀ (fn : Fn) (first cap : Array Value) (w : World), (Instr.makeFunc fn first cap).run Tryz.prog w = .ok (.func fn first cap) w := fun _ _ _ _ => rfl
  unfold V.val
  dsimp only
  go_enter_defers Tryz.func84, Tryz.ntmps84
  go_wp2
  refine leaves_cons (f := 99) (args := #[.pointer (some ⟨w.heap.size + 1, 0, none⟩), .pointer (some ⟨w.heap.size + 1 + 1, 0, none⟩)]) (by simp) (by simp [go_sem]) ?_
  refine (ask_idle ⟨w.heap.size + 1, 0, none⟩ ⟨w.heap.size + 1 + 1, 0, none⟩ _).mono ?_
  rintro e u' w'' ⟨rfl, rfl, rfl⟩
  have hA := World.grownBy_alloc w (.cells #[.int .i64 k.k, .int .i64 k.n, .string k.s] 31) none
  have hs : (w.alloc (.cells #[.int .i64 k.k, .int .i64 k.n, .string k.s] 31)).heap.size = w.heap.size + 1 := World.size_alloc _ _
  generalize w.alloc (.cells #[.int .i64 k.k, .int .i64 k.n, .string k.s] 31) = W1 at *
  have hV := Vb.new W1 ⟨0, 0, ⟨#[]⟩⟩
  have hB := World.grownBy_alloc W1 (.cells #[.int .i64 0, .int .i64 0, .string ⟨#[]⟩] 31) none
  have hs2 : (W1.alloc (.cells #[.int .i64 0, .int .i64 0, .string ⟨#[]⟩] 31)).heap.size = w.heap.size + 1 + 1 := by rw [World.size_alloc, hs]
  rw [hs] at hV
  dsimp only at hV
  generalize W1.alloc (.cells #[.int .i64 0, .int .i64 0, .string ⟨#[]⟩] 31) = W2 at *
  have hC := World.grownBy_alloc W2 (.cells #[.bool false] 4) none
  have hc : (W2.alloc (.cells #[.bool false] 4)).cell? ⟨w.heap.size + 1 + 1, 0, none⟩ = some (.bool false) := by rw [← hs2]; simp
  exact ⟨_, results_cc rfl _ _ _ _ _ _ rfl rfl (load_vb (hV.kept hC (by simp))) (load_bool hc), rfl, grown_up (grown_up hA hB) hC⟩

/-- A table that is asked: what it tells of a key, by its own Look. -/
def LookP (sv : Value) (w : World) (T : V → Option V) : Prop := ∀ (k : V) (W : World), k.wf → Kp (fun b => w.heap.size ≤ b) w W → Calls Tryz.prog 131 #[sv, k.val] W fun e w' => e = .returned (.tuple #[(obV (T k)).val, .bool (T k).isSome]) ∧ W.grownBy w' none
set_option maxRecDepth 100000 in
set_option maxHeartbeats 1000000 in
theorem m_ask_tab (sv : Value) (k : V) (x : V) (y : Bool) (w : World) (hL : ∀ W, w.grownBy W none → Calls Tryz.prog 131 #[sv, k.val] W fun e w' => e = .returned (.tuple #[x.val, .bool y]) ∧ W.grownBy w' none) :
    Calls Tryz.prog 84 #[.iface 37 sv, k.val] w fun e w' => e = .returned (.tuple #[x.val, .bool y]) ∧ w.grownBy w' none := by
  have hmf : ∀ (fn : Fn) (first cap : Array Value) (w : World), (Instr.makeFunc fn first cap).run Tryz.prog w = .ok (.func fn first cap) w := fun _ _ _ _ => rfl
  have HL := hide hL
  clear hL
  unfold V.val at HL ⊢
  go_enter_defers Tryz.func84, Tryz.ntmps84
  have hm : ∀ W : World, (method 254 37 sv "Look").run Tryz.prog W = .ok (131, sv) W := fun _ => by kernel_rfl
  have hA1 := World.grownBy_alloc w (.cells #[.int .i64 k.k, .int .i64 k.n, .string k.s] 31) none
  have hs1 : (w.alloc (.cells #[.int .i64 k.k, .int .i64 k.n, .string k.s] 31)).heap.size = w.heap.size + 1 := World.size_alloc _ _
  have hA2 := World.grownBy_alloc (w.alloc (.cells #[.int .i64 k.k, .int .i64 k.n, .string k.s] 31)) (.cells #[.int .i64 0, .int .i64 0, .string ⟨#[]⟩] 31) none
  have hV2 := Vb.new (w.alloc (.cells #[.int .i64 k.k, .int .i64 k.n, .string k.s] 31)) ⟨0, 0, ⟨#[]⟩⟩
  rw [hs1] at hV2
  dsimp only at hV2
  have hs2 : ((w.alloc (.cells #[.int .i64 k.k, .int .i64 k.n, .string k.s] 31)).alloc (.cells #[.int .i64 0, .int .i64 0, .string ⟨#[]⟩] 31)).heap.size = w.heap.size + 1 + 1 := by rw [World.size_alloc, hs1]
  have hA3 := World.grownBy_alloc ((w.alloc (.cells #[.int .i64 k.k, .int .i64 k.n, .string k.s] 31)).alloc (.cells #[.int .i64 0, .int .i64 0, .string ⟨#[]⟩] 31)) (.cells #[.bool false] 4) none
  have hV3 := hV2.kept hA3 (by simp)
  have hB3 := heap_alloc_new ((w.alloc (.cells #[.int .i64 k.k, .int .i64 k.n, .string k.s] 31)).alloc (.cells #[.int .i64 0, .int .i64 0, .string ⟨#[]⟩] 31)) (.cells #[.bool false] 4)
  rw [hs2] at hB3
  have hgA := grown_up (grown_up hA1 hA2) hA3
  go_wp2_with (go_at_call 131; refine (HL.out _ hgA).mono ?_; rintro e w5 ⟨rfl, hg5⟩; have hV5 := hV3.kept hg5 (by simp); have hb5 : w5.heap[w.heap.size + 1 + 1]? = _ := (hg5.block _ (Array.getElem?_eq_some_iff.1 hB3).1 (by simp)).trans hB3; have v0 := hV5.c0; have v1 := hV5.c1; have v2 := hV5.c2; have vf := hV5.fz; have hP := vb_set hV5 x; have hb6 : (((w5.setCell ⟨w.heap.size + 1, 0, none⟩ (.int .i64 x.k)).setCell ⟨w.heap.size + 1, 1, none⟩ (.int .i64 x.n)).setCell ⟨w.heap.size + 1, 2, none⟩ (.string x.s)).heap[w.heap.size + 1 + 1]? = _ := (hP.2.block _ (Array.getElem?_eq_some_iff.1 hb5).1 (by simp)).trans hb5; have c6 := cell_of_row _ _ 0 _ 4 (0, 0) hb6; have f6 : (((w5.setCell ⟨w.heap.size + 1, 0, none⟩ (.int .i64 x.k)).setCell ⟨w.heap.size + 1, 1, none⟩ (.int .i64 x.n)).setCell ⟨w.heap.size + 1, 2, none⟩ (.string x.s)).frozen? ⟨w.heap.size + 1 + 1, 0, none⟩ = false := by (unfold World.frozen?; rw [show (((w5.setCell ⟨w.heap.size + 1, 0, none⟩ (.int .i64 x.k)).setCell ⟨w.heap.size + 1, 1, none⟩ (.int .i64 x.n)).setCell ⟨w.heap.size + 1, 2, none⟩ (.string x.s)).heap[(⟨w.heap.size + 1 + 1, 0, none⟩ : Addr).block]? = _ from hb6]; simp))
  have hG5 := grown_up hgA hg5
  have hV6 := hP.1
  have hG6 := grown_new hG5 hP.2 (fun j e => by cases e; omega)
  have hb7 := heap_setCell_same _ _ 0 _ _ (.bool y) hb6
  have hS7 : (((w5.setCell ⟨w.heap.size + 1, 0, none⟩ (.int .i64 x.k)).setCell ⟨w.heap.size + 1, 1, none⟩ (.int .i64 x.n)).setCell ⟨w.heap.size + 1, 2, none⟩ (.string x.s)).grownBy ((((w5.setCell ⟨w.heap.size + 1, 0, none⟩ (.int .i64 x.k)).setCell ⟨w.heap.size + 1, 1, none⟩ (.int .i64 x.n)).setCell ⟨w.heap.size + 1, 2, none⟩ (.string x.s)).setCell ⟨w.heap.size + 1 + 1, 0, none⟩ (.bool y)) (some (w.heap.size + 1 + 1)) := ⟨rfl, rfl, rfl, by simp, fun k _ hk => heap_setCell_other _ _ k _ (fun e => hk (by simp [e]))⟩
  refine leaves_cons (f := 99) (args := #[.pointer (some ⟨w.heap.size + 1, 0, none⟩), .pointer (some ⟨w.heap.size + 1 + 1, 0, none⟩)]) (by simp) (by simp [go_sem]) ?_
  refine (ask_idle ⟨w.heap.size + 1, 0, none⟩ ⟨w.heap.size + 1 + 1, 0, none⟩ _).mono ?_
  rintro e u' w'' ⟨rfl, rfl, rfl⟩
  have c7 := cell_of_row _ _ 0 _ 4 (0, 0) hb7
  exact ⟨_, results_cc rfl _ _ _ _ _ _ rfl rfl (load_vb (hV6.kept hS7 (by simp))) (load_bool (by rw [c7]; rfl)), rfl, grown_new hG6 hS7 (fun j e => by cases e; omega)⟩

end Go.Proofs.YtpoahegccjgnjaaGreatDoor
