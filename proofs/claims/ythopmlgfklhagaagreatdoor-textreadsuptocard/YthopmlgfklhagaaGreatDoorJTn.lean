/- Contract, over the turned program: text.Read answers the instructions that a text is, or the first line with an error, as the chapter says. Conditions: those that the theorem states. -/
import Derived.Test.YthopmlgfklhagaaGreatDoorJTm
namespace Go.Proofs.YthopmlgfklhagaaGreatDoor
open Go.RowKit
set_option linter.unusedVariables false

/-- An append under a fence, by what it makes. -/
theorem gwpList_app_at {F : Fence} {n : Nat} {P : Program} {w : World} {ops : Array Oper} {rest : List Oper} {o : Oper} {a : Act} {Q : Exit → Act → World → Prop} (hgd : o.guard = none) (s x : Operand) (t : TypeId)
    (hop : o.op = .call { callee := .builtin .append, args := #[s, x], argTypes := #[t, t] }) (v xv : Value) (hs : a.eval s = v) (hx : a.eval x = xv) {v' : Value} {w' : World}
    (hr : (Builtin.append_ #[t, t] o.type #[v, xv]).run P w = .ok v' w') (h : wpListIn F n P ops Q rest (a.put o.dst v') w') : wpListIn F n P ops Q (o :: rest) a w := by
  refine wpListIn_plain hgd fun K hK' => ?_
  unfold Oper.wpIn
  refine ⟨?_, ?_⟩
  · simp [Oper.about, hop, resolve, Target.leads, Sem.run_pure]
  · rw [Oper.semAt_plain F _ _ (by rw [hop]; intro c hc'; cases hc')]
    simp [execOp, hop, resolve, invoke, builtin, hs, hx, hr, Result.andThen]
    exact hK' _ _ h
/-- What the lines so far are. -/
def PL (pre : List Ln) : List In := rtL (rdT 64 0 (pre.map Ln.l))
theorem PL_of {pre : List Ln} {P : List In} (h : Rdn (pre.map Ln.l) P) : PL pre = P := by unfold PL; rw [h.all]; rfl
/-- The first line with an error is the last of these. -/
def Bad (pre : List Ln) (e : Int) : Prop := ∃ q x, pre = q ++ [x] ∧ ∀ r, rdT 64 0 (q.map Ln.l ++ x.l :: r) = .error ((q.length : Int) + 1, e)
def lastN (pre : List Ln) : Int := match pre.getLast? with | some x => x.n | none => 0
theorem lastN_snoc (q : List Ln) (x : Ln) : lastN (q ++ [x]) = x.n := by unfold lastN; simp
theorem bad_all {s : List UInt8} {pre : List Ln} {e : Int} (h : Bad pre e) (hs : SomeL s pre) : rdT 64 0 (splitC 10 s) = .error (lastN pre, e) := by
  obtain ⟨q, x, rfl, hx⟩ := h
  obtain ⟨hn, r, hr⟩ := hs
  rw [hr, List.map_append, List.map_singleton, List.append_assoc, List.singleton_append, hx, lastN_snoc, hn.last]
theorem all_done {s : List UInt8} {xs : List Ln} (h : AllL s xs) (hR : Rdn (xs.map Ln.l) (PL xs)) : rdT 64 0 (splitC 10 s) = .ok (PL xs) := by
  rw [← h.2]
  exact hR.all

theorem row_slice {w : World} {base : Nat} {e : TypeId} {size : Nat} {v : Value} {k : Nat} {xs : List Value} (h : w.ownsRow base e size v k xs) : ∃ a c, v = .slice a k c := by
  rcases h.2 with ⟨rfl, h0⟩ | ⟨g, cap, cur, rfl, _⟩
  · exact ⟨none, 0, by rw [h0]⟩
  · exact ⟨_, _, rfl⟩
theorem split_mem_len (c : UInt8) : ∀ (t u : List UInt8), u ∈ splitC c t → u.length ≤ t.length
  | [], u, h => by
    have : u = [] := by simpa [splitC] using h
    rw [this]
    exact Nat.le_refl _
  | x :: t, u, h => by
    unfold splitC at h
    split at h
    · rcases List.mem_cons.1 h with h | h
      · rw [h]; simp
      · have := split_mem_len c t u h
        rw [List.length_cons]
        omega
    · split at h
      · next e => exact absurd e (splitC_ne c t)
      · next h' t' e =>
        rcases List.mem_cons.1 h with h | h
        · have := split_mem_len c t h' (by rw [e]; simp)
          rw [h, List.length_cons, List.length_cons]
          omega
        · have := split_mem_len c t u (by rw [e]; simp [h])
          rw [List.length_cons]
          omega
theorem words_mem_len (t u : List UInt8) (h : u ∈ wordsL t) : u.length ≤ t.length := split_mem_len 32 t u (List.mem_filter.1 h).1
theorem results_ccc {P : Program} {fn : Func} {p q r : Tmp} {t1 t2 t3 : TypeId} (h : fn.results = #[.cell p t1, .cell q t2, .cell r t3]) (tmps : Array Value) (w : World) (a b c : Addr) (x y z : Value)
    (hp : tmps.getD p undef = .pointer (some a)) (hq : tmps.getD q undef = .pointer (some b)) (hr : tmps.getD r undef = .pointer (some c))
    (h1 : (loadVar t1 a).run P w = .ok x w) (h2 : (loadVar t2 b).run P w = .ok y w) (h3 : (loadVar t3 c).run P w = .ok z w) : (results fn tmps).run P w = .ok (.tuple #[x, y, z]) w := by
  have hp' : tmps[p]?.getD undef = .pointer (some a) := by simpa using hp
  have hq' : tmps[q]?.getD undef = .pointer (some b) := by simpa using hq
  have hr' : tmps[r]?.getD undef = .pointer (some c) := by simpa using hr
  simp [results, h, hp', hq', hr', asAddr, h1, h2, h3, Result.andThen]
theorem load_slI {w : World} {b : Nat} {v : Value} (h : Boxed w b 23 v) : (loadVar 23 ⟨b, 0, none⟩).run Tryz.prog w = .ok v w := by
  have hc := h.cell
  go_simp
theorem load_int {w : World} {b : Nat} {v : Value} (h : Boxed w b 3 v) : (loadVar 3 ⟨b, 0, none⟩).run Tryz.prog w = .ok v w := by
  have hc := h.cell
  go_simp
theorem load_errno {w : World} {b : Nat} {v : Value} (h : Boxed w b 24 v) : (loadVar 24 ⟨b, 0, none⟩).run Tryz.prog w = .ok v w := by
  have hc := h.cell
  go_simp
theorem boxed_put {W : World} {b : Nat} {t : TypeId} {v : Value} (h : Boxed W b t v) {l : Nat} {o : Obj} (o' : Obj) (hl : W.heap[l]? = some o) (ho : o.isCells = false) : Boxed (W.putObj l o') b t v :=
  h.kept (grownBy_putObj' W l o') (fun e => by
    have e : b = l := Option.some.inj e
    subst e
    rw [show W.heap[b]? = _ from h] at hl
    cases hl
    cases ho)
/-- Three boxes, each of them stored. -/
theorem box3 {W : World} {b : Nat} {x y z : Value} (h0 : Boxed W b 23 x) (h1 : Boxed W (b + 1) 3 y) (h2 : Boxed W (b + 1 + 1) 24 z) (x' y' z' : Value) :
    Boxed (((W.setCell ⟨b, 0, none⟩ x').setCell ⟨b + 1, 0, none⟩ y').setCell ⟨b + 1 + 1, 0, none⟩ z') b 23 x' ∧ Boxed (((W.setCell ⟨b, 0, none⟩ x').setCell ⟨b + 1, 0, none⟩ y').setCell ⟨b + 1 + 1, 0, none⟩ z') (b + 1) 3 y' ∧
      Boxed (((W.setCell ⟨b, 0, none⟩ x').setCell ⟨b + 1, 0, none⟩ y').setCell ⟨b + 1 + 1, 0, none⟩ z') (b + 1 + 1) 24 z' :=
  ⟨((h0.set x').other (by omega) _).other (by omega) _, ((h1.other (by omega) _).set y').other (by omega) _, ((h2.other (by omega) _).other (by omega) _).set z'⟩
theorem row_set {W : World} {b : Nat} {t e : TypeId} {u : Value} (hb : Boxed W b t u) (hte : t ≠ e) {base size k : Nat} {v : Value} {xs : List Value} (x : Value) (hr : W.ownsRow base e size v k xs) : (W.setCell ⟨b, 0, none⟩ x).ownsRow base e size v k xs :=
  World.ownsRow.kept hr (grownBy_setCell' W b x) (.inr (hb.not_row hte hr).symm)
theorem row3 {W : World} {b : Nat} {x y z : Value} (h0 : Boxed W b 23 x) (h1 : Boxed W (b + 1) 3 y) (h2 : Boxed W (b + 1 + 1) 24 z) (x' y' z' : Value) {base size k : Nat} {v : Value} {xs : List Value} (hr : W.ownsRow base 35 size v k xs) :
    (((W.setCell ⟨b, 0, none⟩ x').setCell ⟨b + 1, 0, none⟩ y').setCell ⟨b + 1 + 1, 0, none⟩ z').ownsRow base 35 size v k xs :=
  row_set ((h2.other (by omega) _).other (by omega) _) (by decide) _ (row_set (h1.other (by omega) _) (by decide) _ (row_set h0 (by decide) _ hr))
/-- An instruction more in the box. -/
theorem read_app (W : World) (n0 B : Nat) (v : Value) (P : List In) (y : In) (hv : Boxed W B 23 v) (hrow : W.ownsRow n0 35 7 v P.length (ics P)) (hn : n0 ≤ W.heap.size) (hB : n0 ≤ B) (hl : P.length < 64) :
    ∃ g cap w', (Builtin.append_ #[23, 23] 23 #[v, .slice (some ⟨W.heap.size, 0, none⟩) 1 1]).run Tryz.prog (W.alloc (.cells #[.int .i64 y.op, .int .i64 y.a, .int .i64 y.b, .int .i64 y.c, .int .i64 y.v.k, .int .i64 y.v.n, .string y.v.s] 35)) = .ok (.slice (some ⟨g, 0, none⟩) (P.length + 1) cap) w' ∧ Boxed w' B 23 v ∧
      (Boxed (w'.setCell ⟨B, 0, none⟩ (.slice (some ⟨g, 0, none⟩) (P.length + 1) cap)) B 23 (.slice (some ⟨g, 0, none⟩) (P.length + 1) cap) ∧ (w'.setCell ⟨B, 0, none⟩ (.slice (some ⟨g, 0, none⟩) (P.length + 1) cap)).ownsRow n0 35 7 (.slice (some ⟨g, 0, none⟩) (P.length + 1) cap) (P ++ [y]).length (ics (P ++ [y])) ∧
        KeepsOthers W (w'.setCell ⟨B, 0, none⟩ (.slice (some ⟨g, 0, none⟩) (P.length + 1) cap)) ∧ Below n0 W (w'.setCell ⟨B, 0, none⟩ (.slice (some ⟨g, 0, none⟩) (P.length + 1) cap)) ∧
        ∀ b t u, Boxed W b t u → b ≠ B → t ≠ 35 → Boxed (w'.setCell ⟨B, 0, none⟩ (.slice (some ⟨g, 0, none⟩) (P.length + 1) cap)) b t u) := by
  obtain ⟨v', w', hr, hO', hg', hv'⟩ := appI (W.alloc (.cells #[.int .i64 y.op, .int .i64 y.a, .int .i64 y.b, .int .i64 y.c, .int .i64 y.v.k, .int .i64 y.v.n, .string y.v.s] 35)) n0 v (.slice (some ⟨W.heap.size, 0, none⟩) 1 1) P [y] (OwnI.alloc hrow _) (ins_lit W y) (by simp; omega) (by simp; omega)
  have hO2 : w'.ownsRow n0 35 7 v' (P.length + 1) (ics (P ++ [y])) := by
    have h : w'.ownsRow n0 35 7 v' (P ++ [y]).length (ics (P ++ [y])) := hO'
    rw [List.length_append, List.length_singleton] at h
    exact h
  obtain ⟨g, cap, rfl⟩ := ownsRow_succ hO2
  obtain ⟨hv1, hv2, hr2, hk2, hb2⟩ := hv.appended (by decide) hrow hn hB hO2 hg'
  refine ⟨g, cap, w', hr, hv1, hv2, ?_, hk2, hb2, fun b t u hb hne ht => ?_⟩
  · rw [List.length_append, List.length_singleton]
    exact hr2
  · exact ((hb.alloc (.cells #[.int .i64 y.op, .int .i64 y.a, .int .i64 y.b, .int .i64 y.c, .int .i64 y.v.k, .int .i64 y.v.n, .string y.v.s] 35)).kept hg' (hb.not_row ht hrow)).other hne _
theorem keep3 (W : World) (b : Nat) (x' y' z' : Value) : KeepsOthers W (((W.setCell ⟨b, 0, none⟩ x').setCell ⟨b + 1, 0, none⟩ y').setCell ⟨b + 1 + 1, 0, none⟩ z') :=
  ((KeepsOthers.setCell _ _ _).trans (KeepsOthers.setCell _ _ _)).trans (KeepsOthers.setCell _ _ _)
theorem below3 {n0 : Nat} {w W : World} (h : Below n0 w W) (b : Nat) (hb : n0 ≤ b) (x' y' z' : Value) : Below n0 w (((W.setCell ⟨b, 0, none⟩ x').setCell ⟨b + 1, 0, none⟩ y').setCell ⟨b + 1 + 1, 0, none⟩ z') :=
  ((h.setCell (p := ⟨b, 0, none⟩) hb _).setCell (p := ⟨b + 1, 0, none⟩) (Nat.le_trans hb (Nat.le_succ _)) _).setCell (p := ⟨b + 1 + 1, 0, none⟩) (Nat.le_trans hb (by show b ≤ b + 1 + 1; omega)) _

section
attribute [local go_sem] Oper.semAt_some
set_option maxRecDepth 100000 in
set_option maxHeartbeats 1000000 in
theorem tread_any (s : List UInt8) (w : World) (hs : s.length ≤ 1099511627776) (hG : G14 w) :
    Calls Tryz.prog 5 #[.string (mkB s)] w fun e w' => ∃ v, e = .returned (.tuple #[v, .int .i64 (rtN (rdT 64 0 (splitC 10 s))), .int .i64 (rtE (rdT 64 0 (splitC 10 s)))]) ∧ OwnI w' w.heap.size v (rtL (rdT 64 0 (splitC 10 s))) ∧ w.grownBy w' none := by
  have HG := hide hG
  refine (callsIn_wide (n := 5)).1 ?_
  refine callsIn_of_wp_marks Tryz.func5 rfl trivial ?_ rfl
  simp only [Tryz.ntmps5, List.size_toArray, List.length_nil, List.length_cons, Nat.reduceAdd, Nat.reduceSub, Array.replicate_succ, Array.replicate_zero, List.push_toArray, List.append_toArray, List.nil_append, List.cons_append]
  gi_wp2_with (refine ⟨trivial, ?_⟩; gi_at_call 10; refine (callsIn_wide.2 (lines_any _ _)).mono ?_; rintro e w' ⟨rfl, rfl⟩)
  have hB0 : Below w.heap.size w (((((w.alloc (.cells #[.slice none 0 0] 23)).alloc (.cells #[.int .i64 0] 3)).alloc (.cells #[.int .i64 0] 24)).alloc (.cells #[.slice none 0 0] 23)).alloc (.cells #[.string (mkB s)] 9)) :=
    (((((Below.refl _ w).alloc (Nat.le_refl _) _).alloc (by simp) _).alloc (by simp; omega) _).alloc (by simp; omega) _).alloc (by simp; omega) _
  have b0 := ((((Boxed.new w 23 (.slice none 0 0)).alloc (.cells #[.int .i64 0] 3)).alloc (.cells #[.int .i64 0] 24)).alloc (.cells #[.slice none 0 0] 23)).alloc (.cells #[.string (mkB s)] 9)
  have b1 := (((Boxed.new (w.alloc (.cells #[.slice none 0 0] 23)) 3 (.int .i64 0)).alloc (.cells #[.int .i64 0] 24)).alloc (.cells #[.slice none 0 0] 23)).alloc (.cells #[.string (mkB s)] 9)
  have b2 := ((Boxed.new ((w.alloc (.cells #[.slice none 0 0] 23)).alloc (.cells #[.int .i64 0] 3)) 24 (.int .i64 0)).alloc (.cells #[.slice none 0 0] 23)).alloc (.cells #[.string (mkB s)] 9)
  have b3 := (Boxed.new (((w.alloc (.cells #[.slice none 0 0] 23)).alloc (.cells #[.int .i64 0] 3)).alloc (.cells #[.int .i64 0] 24)) 23 (.slice none 0 0)).alloc (.cells #[.string (mkB s)] 9)
  have b4 := Boxed.new ((((w.alloc (.cells #[.slice none 0 0] 23)).alloc (.cells #[.int .i64 0] 3)).alloc (.cells #[.int .i64 0] 24)).alloc (.cells #[.slice none 0 0] 23)) 9 (.string (mkB s))
  simp only [World.size_alloc] at b1 b2 b3 b4
  obtain ⟨W0, hW0⟩ : ∃ W0, (((((w.alloc (.cells #[.slice none 0 0] 23)).alloc (.cells #[.int .i64 0] 3)).alloc (.cells #[.int .i64 0] 24)).alloc (.cells #[.slice none 0 0] 23)).alloc (.cells #[.string (mkB s)] 9)) = W0 := ⟨_, rfl⟩
  have hz0 : W0.heap.size = w.heap.size + 1 + 1 + 1 + 1 + 1 := by rw [← hW0]; simp
  rw [hW0] at hB0 b0 b1 b2 b3 b4 ⊢
  clear hW0
  obtain ⟨n0, HN0⟩ : ∃ n0, Hid (w.heap.size = n0) := ⟨_, rfl⟩
  rw [HN0.out] at hB0 b0 b1 b2 b3 b4 hz0 ⊢
  refine wpIn_rangeFunc_ownG (encs := fun x : Ln => #[.int .i64 x.n, .string (mkB x.l)]) (Kp := Below n0) (S := AllL s) (Sp := SomeL s) (N := (splitC 10 s).length) (w0 := W0) rfl (by omega) (gf := 19) (lb := #[.pointer (some ⟨n0 + 1 + 1 + 1 + 1, 0, none⟩)]) rfl trivial (enters_of Tryz.func19 (by kernel_rfl) rfl)
    (fun l J Jx W hW hJ hJx hY h0 => lines1_in _ (by omega) l (n0 + 1 + 1 + 1 + 1) n0 W.heap.size s hs J Jx hJ hY W ((hW.cell (p := ⟨n0 + 1 + 1 + 1 + 1, 0, none⟩) (by rw [hz0]; show n0 + 1 + 1 + 1 + 1 < _; omega)).trans b4.cell) h0) belowK_t (belowK_b (by omega)) (Below.refl _ _) (fun _ => rfl)
    (fun pre W => (∃ v, Boxed W (n0 + 1 + 1 + 1) 23 v ∧ W.ownsRow n0 35 7 v (PL pre).length (ics (PL pre)) ∧ Rdn (pre.map Ln.l) (PL pre)) ∧ (Boxed W n0 23 (.slice none 0 0) ∧ Boxed W (n0 + 1) 3 (.int .i64 0) ∧ Boxed W (n0 + 1 + 1) 24 (.int .i64 0)) ∧ Below n0 w W)
    (fun c pre W => (∃ e, (Boxed W n0 23 (.slice none 0 0) ∧ Boxed W (n0 + 1) 3 (.int .i64 (lastN pre)) ∧ Boxed W (n0 + 1 + 1) 24 (.int .i64 e)) ∧ c = .ret ∧ Bad pre e) ∧ Below n0 w W)
    ?hI ?hIx ⟨⟨_, b3, World.ownsRow_nil _ _ _ _, Rdn.nil⟩, ⟨b0, b1, b2⟩, hB0⟩
    (fun x => { tmps := #[.string (mkB s), undef, .pointer (some ⟨n0, 0, none⟩), .pointer (some ⟨n0 + 1, 0, none⟩), .pointer (some ⟨n0 + 1 + 1, 0, none⟩), .pointer (some ⟨n0 + 1 + 1 + 1, 0, none⟩), .int .i64 x.n, .string (mkB x.l), undef, undef, undef, .string (mkB s), .func (.func 19) #[] #[.pointer (some ⟨n0 + 1 + 1 + 1 + 1, 0, none⟩)], .int .i64 x.n, .string (mkB x.l), undef, undef, undef, undef, undef, undef, undef, undef, undef, undef, undef, undef, undef, undef, undef, undef, undef, undef, undef, undef, undef, undef], defers := [] }) ?assign ?body ?done ?stop
  case hI =>
    refine OwnFrom.and (Own.from (holdsRow_own n0 (n0 + 1 + 1 + 1) 23 35 7 (fun pre => (PL pre).length) (fun pre => ics (PL pre)) (fun pre _ => Rdn (pre.map Ln.l) (PL pre))) _) (OwnFrom.and (OwnFrom.and (Own.from (boxed_own n0 23 (fun _ => .slice none 0 0)) _) (OwnFrom.and (Own.from (boxed_own (n0 + 1) 3 (fun _ => .int .i64 0)) _) (Own.from (boxed_own (n0 + 1 + 1) 24 (fun _ => .int .i64 0)) _))) (ownFrom_below (by rw [HN0.out]; exact Nat.le_refl _) (by omega)))
  case hIx =>
    intro c
    refine OwnFrom.and ?_ (ownFrom_below (by rw [HN0.out]; exact Nat.le_refl _) (by omega))
    rintro pre A B row ⟨e, ⟨h0, h1, h2⟩, hc, hb⟩ hg hr
    exact ⟨e, ⟨(Own.from (boxed_own (β := Unit) n0 23 (fun _ => .slice none 0 0)) _) () A B row h0 hg hr, (Own.from (boxed_own (β := Unit) (n0 + 1) 3 (fun _ => .int .i64 (lastN pre))) _) () A B row h1 hg hr, (Own.from (boxed_own (β := Unit) (n0 + 1 + 1) 24 (fun _ => .int .i64 e)) _) () A B row h2 hg hr⟩, hc, hb⟩
  case assign =>
    intro l x W K hK
    gi_wp2
    exact hK
  case body =>
    rintro l pre x W ⟨⟨v, hv, hrow, hR⟩, ⟨c0, c1, c2⟩, hB⟩ hlt
    have hGW : G14 W := HG.out.keptN (by rw [← HN0.out] at hB; exact Below.grownN hB)
    have Hwd := hide (words_any (mkB x.l) W (by rw [mkB_size]; exact x.2))
    rw [mkB_list] at Hwd
    by_cases he : wordsL x.l = []
    · rw [he] at Hwd
      have HR2 := hide (hR.blank he)
      gi_wp2_with (refine ⟨trivial, ?_⟩; gi_at_call 11; refine (CallsIn.inRound l (callsIn_wide.2 Hwd.out)).mono ?_; rintro e w2 ⟨v2, rfl, hO, hg2⟩; obtain ⟨a2, cp2, rfl, _⟩ := hO.open)
      have hgn : KeepsFrom W0.heap.size W w2 := KeepsFrom.of_grownBy hg2 (fun j e => by cases e)
      have hbn : Below n0 W w2 := (Below.refl n0 W).grown hg2 (Nat.le_trans (by rw [← HN0.out]; exact Nat.le_refl _) hB.size) (by simp)
      have e1 : PL (pre ++ [x]) = PL pre := PL_of (by rw [List.map_append]; exact HR2.out)
      refine ⟨hgn, hbn, ⟨v, hv.kept hg2 (by simp), ?_, ?_⟩, ⟨c0.kept hg2 (by simp), c1.kept hg2 (by simp), c2.kept hg2 (by simp)⟩, hB.trans hbn⟩
      · rw [e1]
        exact World.ownsRow.kept hrow hg2 (by cases v.ownBlock <;> simp)
      · rw [e1, List.map_append]
        exact HR2.out
    · have hn5 : (wordsL x.l).take 5 ≠ [] := by
        intro h
        cases hw : wordsL x.l with
        | nil => exact he hw
        | cons a b => rw [hw] at h; cases h
      have hl5 : ∀ u ∈ (wordsL x.l).take 5, u.length ≤ 1099511627776 := fun u hu => Nat.le_trans (words_mem_len x.l u (List.mem_of_mem_take hu)) x.2
      obtain ⟨L5, HL5⟩ : ∃ L5 : Nat, Hid (((wordsL x.l).take 5).length = L5) := ⟨_, rfl⟩
      have hL5 : ((L5 : Int) == 0) = false := by
        have h1 := HL5.out
        have h2 := List.length_pos_iff.2 hn5
        rw [beq_eq_false_iff_ne]
        omega
      have Hwd2 : Hid (Calls Tryz.prog 11 #[.string (mkB x.l)] W fun e w' => ∃ a c, e = .returned (.slice a L5 c) ∧ Wds w' (.slice a L5 c) ((wordsL x.l).take 5) ∧ W.grownBy w' none) := by
        refine Hwd.out.mono ?_
        rintro e w' ⟨v2, rfl, hO, hg⟩
        have hS : Wds w' v2 ((wordsL x.l).take 5) := hO.sl
        obtain ⟨a, c, e, _⟩ := hO.open
        rw [List.length_map, HL5.out] at e
        subst e
        exact ⟨a, c, rfl, hS, hg⟩
      obtain ⟨y, Hy⟩ : ∃ y, Hid (insV ((wordsL x.l).take 5) = y) := ⟨_, rfl⟩
      obtain ⟨r, Hr⟩ : ∃ r, Hid (insB ((wordsL x.l).take 5) = r) := ⟨_, rfl⟩
      have HI : Hid (∀ v W', Wds W' v ((wordsL x.l).take 5) → G14 W' → Calls Tryz.prog 12 #[v] W' fun e w' => e = .returned (.tuple #[.agg #[.int .i64 y.op, .int .i64 y.a, .int .i64 y.b, .int .i64 y.c, .int .i64 y.v.k, .int .i64 y.v.n, .string y.v.s], .bool r]) ∧ W'.grownBy w' none) := by
        intro v W' h1 h2
        have h := tinst_any v _ W' h1 hn5 hl5 h2
        rw [Hy.out, Hr.out] at h
        exact h
      have HU : Hid (instU (wordsL x.l) = if r then some y else none) := by
        show _ = _
        rw [← instU_take, ← Hr.out, ← Hy.out]
        unfold insB insV
        cases instU ((wordsL x.l).take 5) <;> rfl
      have Hnw : Hid (n0 ≤ W.heap.size) := by
        have := hB.size
        rw [HN0.out] at this
        exact this
      have HB := hide hB
      have HR := hide hR
      have He := hide he
      have HGW := hide hGW
      clear Hwd hn5 hl5 hR hB hGW he hlt
      cases r with
      | false =>
        have HU2 : Hid (instU (wordsL x.l) = none) := HU.out
        gi_wp2_with (first
          | (refine ⟨trivial, ?_⟩; gi_at_call 11; refine (CallsIn.inRound l (callsIn_wide.2 Hwd2.out)).mono ?_; rintro e w2 ⟨a2, cp2, rfl, hW2, hg2⟩)
          | (refine ⟨trivial, ?_⟩; gi_at_call 12; refine (CallsIn.inRound l (callsIn_wide.2 (HI.out _ _ hW2 (HGW.out.keptN hg2)))).mono ?_; rintro e w3 ⟨rfl, hg3⟩; have hg4 := grown_up (grown_up hg2 hg3) (World.grownBy_alloc w3 (.cells #[.int .i64 y.op, .int .i64 y.a, .int .i64 y.b, .int .i64 y.c, .int .i64 y.v.k, .int .i64 y.v.n, .string y.v.s] 35) none); have k0 := c0.kept hg4 (by simp); have k1 := c1.kept hg4 (by simp); have k2 := c2.kept hg4 (by simp); have d0 := k0.cell; have d1 := k1.cell; have d2 := k2.cell; have f0 := k0.frozen; have f1 := k1.frozen; have f2 := k2.frozen))
        have hx := box3 k0 k1 k2 (.slice none 0 0) (.int .i64 x.n) (.int .i64 15)
        have hbn : Below n0 W (w3.alloc (.cells #[.int .i64 y.op, .int .i64 y.a, .int .i64 y.b, .int .i64 y.c, .int .i64 y.v.k, .int .i64 y.v.n, .string y.v.s] 35)) := (Below.refl n0 W).grown hg4 Hnw.out (by simp)
        refine ⟨(KeepsFrom.of_grownBy hg4 (fun j e => by cases e)).trans ((keep3 _ n0 _ _ _).from _), ⟨15, ⟨hx.1, by rw [lastN_snoc]; exact hx.2.1, hx.2.2⟩, rfl, pre, x, rfl, fun q => ?_⟩, below3 (HB.out.trans hbn) n0 (Nat.le_refl _) _ _ _⟩
        have := HR.out.bad He.out HU2.out q
        rw [List.length_map] at this
        exact this
      | true =>
        have HU2 : Hid (instU (wordsL x.l) = some y) := HU.out
        obtain ⟨a0, cp0, hva⟩ := row_slice hrow
        subst hva
        have hpl : (PL pre).length ≤ 64 := HR.out.1
        by_cases h64 : (PL pre).length = 64
        · have ht : (((PL pre).length : Int) == 64) = true := by rw [h64]; rfl
          have Hno : Hid (¬ (PL pre).length < 64) := by show ¬ _; omega
          clear h64 hpl
          gi_wp2_with (first
            | (refine ⟨trivial, ?_⟩; gi_at_call 11; refine (CallsIn.inRound l (callsIn_wide.2 Hwd2.out)).mono ?_; rintro e w2 ⟨a2, cp2, rfl, hW2, hg2⟩)
            | (refine ⟨trivial, ?_⟩; gi_at_call 12; refine (CallsIn.inRound l (callsIn_wide.2 (HI.out _ _ hW2 (HGW.out.keptN hg2)))).mono ?_; rintro e w3 ⟨rfl, hg3⟩; have hg4 := grown_up (grown_up hg2 hg3) (World.grownBy_alloc w3 (.cells #[.int .i64 y.op, .int .i64 y.a, .int .i64 y.b, .int .i64 y.c, .int .i64 y.v.k, .int .i64 y.v.n, .string y.v.s] 35) none); have k0 := c0.kept hg4 (by simp); have k1 := c1.kept hg4 (by simp); have k2 := c2.kept hg4 (by simp); have kv := hv.kept hg4 (by simp); have dv := kv.cell; have d0 := k0.cell; have d1 := k1.cell; have d2 := k2.cell; have f0 := k0.frozen; have f1 := k1.frozen; have f2 := k2.frozen))
          have hx := box3 k0 k1 k2 (.slice none 0 0) (.int .i64 x.n) (.int .i64 3)
          have hbn : Below n0 W (w3.alloc (.cells #[.int .i64 y.op, .int .i64 y.a, .int .i64 y.b, .int .i64 y.c, .int .i64 y.v.k, .int .i64 y.v.n, .string y.v.s] 35)) := (Below.refl n0 W).grown hg4 Hnw.out (by simp)
          refine ⟨(KeepsFrom.of_grownBy hg4 (fun j e => by cases e)).trans ((keep3 _ n0 _ _ _).from _), ⟨3, ⟨hx.1, by rw [lastN_snoc]; exact hx.2.1, hx.2.2⟩, rfl, pre, x, rfl, fun q => ?_⟩, below3 (HB.out.trans hbn) n0 (Nat.le_refl _) _ _ _⟩
          have := HR.out.long He.out HU2.out Hno.out q
          rw [List.length_map] at this
          exact this
        · have ht : (((PL pre).length : Int) == 64) = false := by rw [beq_eq_false_iff_ne]; omega
          have Hlt : Hid ((PL pre).length < 64) := by show _ < _; omega
          clear h64 hpl
          have Hrow := hide hrow
          clear hrow
          gi_wp2_with (first
            | (refine ⟨trivial, ?_⟩; gi_at_call 11; refine (CallsIn.inRound l (callsIn_wide.2 Hwd2.out)).mono ?_; rintro e w2 ⟨a2, cp2, rfl, hW2, hg2⟩)
            | (refine ⟨trivial, ?_⟩; gi_at_call 12; refine (CallsIn.inRound l (callsIn_wide.2 (HI.out _ _ hW2 (HGW.out.keptN hg2)))).mono ?_; rintro e w3 ⟨rfl, hg3⟩; have hg4 := grown_up (grown_up hg2 hg3) (World.grownBy_alloc w3 (.cells #[.int .i64 y.op, .int .i64 y.a, .int .i64 y.b, .int .i64 y.c, .int .i64 y.v.k, .int .i64 y.v.n, .string y.v.s] 35) none); have kv := hv.kept hg4 (by simp); have dv := kv.cell; have hIb := Ib.new w3 y; obtain ⟨m0, m1, m2, m3, m4, m5, m6⟩ := hIb.cs; have Hap := hide (read_app (w3.alloc (.cells #[.int .i64 y.op, .int .i64 y.a, .int .i64 y.b, .int .i64 y.c, .int .i64 y.v.k, .int .i64 y.v.n, .string y.v.s] 35)) n0 (n0 + 1 + 1 + 1) _ (PL pre) y kv (World.ownsRow.kept Hrow.out hg4 (by cases (Value.slice a0 (PL pre).length cp0).ownBlock <;> simp)) (Nat.le_trans Hnw.out hg4.size) (by omega) Hlt.out); clear hIb; obtain ⟨g', cap', w', hr, hv1, hF⟩ := Hap.out; have hc1 := hv1.cell; have hf1 := hv1.frozen; rw [World.size_alloc] at hr; have HF := hide hF; clear hF)
            | (gi_at_builtin; refine gwpList_app_at rfl (.tmp 32) (.tmp 34) 23 rfl _ _ rfl rfl hr ?_))
          obtain ⟨hv2, hr2, hk2, hb2, hoth⟩ := HF.out
          have hbn : Below n0 W (w3.alloc (.cells #[.int .i64 y.op, .int .i64 y.a, .int .i64 y.b, .int .i64 y.c, .int .i64 y.v.k, .int .i64 y.v.n, .string y.v.s] 35)) := (Below.refl n0 W).grown hg4 Hnw.out (by simp)
          have hRm := HR.out.more He.out HU2.out Hlt.out
          have e1 : PL (pre ++ [x]) = PL pre ++ [y] := PL_of (by rw [List.map_append]; exact hRm)
          refine ⟨(KeepsFrom.of_grownBy hg4 (fun j e => by cases e)).trans (hk2.from _), hbn.trans hb2, ⟨_, hv2, ?_, ?_⟩, ⟨hoth _ _ _ (c0.kept hg4 (by simp)) (by omega) (by decide), hoth _ _ _ (c1.kept hg4 (by simp)) (by omega) (by decide), hoth _ _ _ (c2.kept hg4 (by simp)) (by omega) (by decide)⟩, HB.out.trans (hbn.trans hb2)⟩
          · rw [e1]
            exact hr2
          · rw [e1, List.map_append]
            exact hRm
  case done =>
    rintro D ys W hD hS ⟨⟨v, hv, hrow, hR⟩, ⟨c0, c1, c2⟩, hB⟩ hK
    have hall := all_done hS hR
    obtain ⟨a, cp, hva⟩ := row_slice hrow
    have hx := box3 c0 c1 c2 v (.int .i64 0) (.int .i64 0)
    have hKO := keep3 W n0 v (.int .i64 0) (.int .i64 0)
    have hb3 := below3 hB n0 (Nat.le_refl _) v (.int .i64 0) (.int .i64 0)
    have hr3 := row3 c0 c1 c2 v (.int .i64 0) (.int .i64 0) hrow
    have hK' := hKO.same D _ hK rfl
    have hc := hv.cell
    have d0 := c0.cell; have d1 := c1.cell; have d2 := c2.cell
    have f0 := c0.frozen; have f1 := c1.frozen; have f2 := c2.frozen
    subst hva
    gi_wp2
    refine ⟨by simp, .inl ⟨_, _, rfl, run_takeDeferred hK', ?_⟩⟩
    refine ⟨_, results_ccc rfl _ _ _ _ _ _ _ _ rfl rfl rfl (load_slI (boxed_put hx.1 _ hK' rfl)) (load_int (boxed_put hx.2.1 _ hK' rfl)) (load_errno (boxed_put hx.2.2 _ hK' rfl)), ?_⟩
    refine ⟨_, by rw [hall]; rfl, ?_, ?_⟩
    · rw [hall, HN0.out]
      exact ownsRow_putObj hr3 _ hK' rfl
    · exact Below.grownN (by rw [HN0.out]; exact hb3.trans (belowK_b (w := w) (by rw [HN0.out]; exact Nat.le_refl _) _ D _ _ (by rw [HN0.out]; omega) hK' rfl rfl))
  case stop =>
    rintro D c pre W hD hSp ⟨⟨e, ⟨c0, c1, c2⟩, rfl, hbad⟩, hB⟩ hK
    have hall := bad_all hbad hSp
    gi_wp2
    refine ⟨by simp, .inl ⟨_, _, rfl, run_takeDeferred hK, ?_⟩⟩
    refine ⟨_, results_ccc rfl _ _ _ _ _ _ _ _ rfl rfl rfl (load_slI (boxed_put c0 _ hK rfl)) (load_int (boxed_put c1 _ hK rfl)) (load_errno (boxed_put c2 _ hK rfl)), ?_⟩
    refine ⟨_, by rw [hall]; rfl, ?_, ?_⟩
    · rw [hall]
      exact OwnI.nil _ _
    · exact Below.grownN (by rw [HN0.out]; exact hB.trans (belowK_b (w := w) (by rw [HN0.out]; exact Nat.le_refl _) _ D _ _ (by rw [HN0.out]; omega) hK rfl rfl))
end

end Go.Proofs.YthopmlgfklhagaaGreatDoor
