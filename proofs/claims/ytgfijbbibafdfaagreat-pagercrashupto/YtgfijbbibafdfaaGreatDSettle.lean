/- Contracts, over the turned program: stays and settle of package device. Conditions: those that each theorem states. -/
import Derived.Test.YtgfijbbibafdfaaGreatDOps
import Derived.ChangeKeysEq
import Derived.Maps.RangeWalk
namespace Go.Proofs.YtgfijbbibafdfaaGreat
open Go.RowKit
set_option linter.unusedVariables false

/-- How many of its first bytes the k-th unsure sector keeps. -/
def staysN (k : Nat) (l : List Bool) (torn cut : Int) : Nat := if (k : Int) = torn then (min (max cut 0) 64).toNat else if l.getD (k % l.length) false then 64 else 0
theorem staysN_le (k : Nat) (l : List Bool) (torn cut : Int) : staysN k l torn cut ≤ 64 := by 
  unfold staysN
  split
  · omega
  · split <;> omega

set_option maxRecDepth 100000 in
set_option maxHeartbeats 400000 in
theorem stays_any (k : Nat) (kv : Value) (l : List Bool) (torn cut : Int) (B : Nat) (w : World) (hk : k ≤ 4096) (hK : Sl Value.bool B w kv l) :
    Calls Tryz.prog 39 #[.int .i64 k, kv, .int .i64 torn, .int .i64 cut] w fun e w' => e = .returned (.int .i64 (staysN k l torn cut)) ∧ w' = w := by
  obtain ⟨a, c, rfl, h1, h2, h3⟩ := hK
  unfold maxLen at h2
  by_cases ht : (k : Int) = torn
  · have ht' : ((k : Int) == torn) = true := by simpa using ht
    have hN : staysN k l torn cut = (min (max cut 0) 64).toNat := by unfold staysN; rw [if_pos ht]
    rw [hN]
    clear hN ht h3
    rcases (by omega : cut < 0 ∨ (0 ≤ cut ∧ cut ≤ 64) ∨ 64 < cut) with hc | hc | hc
    all_goals
      go_enter Tryz.func39, Tryz.ntmps39
      go_wp2
      go_ret
      exact ⟨reti (by first | omega | (simp; omega) | (split <;> omega)), rfl⟩
  · have ht' : ((k : Int) == torn) = false := by simpa using ht
    rcases Nat.eq_zero_or_pos l.length with h0 | h0
    · have hl : l = [] := List.eq_nil_of_length_eq_zero h0
      subst hl
      have hN : staysN k [] torn cut = 0 := by unfold staysN; rw [if_neg ht]; simp
      rw [hN]
      clear hN ht h3
      go_enter Tryz.func39, Tryz.ntmps39
      go_wp2
      go_ret
      exact ⟨rfl, rfl⟩
    · have hm : k % l.length < l.length := Nat.mod_lt _ h0
      obtain ⟨b, off, rfl, _, hc⟩ := h3 (k % l.length) hm
      have hN : staysN k l torn cut = if l[k % l.length] then 64 else 0 := by
        unfold staysN
        rw [if_neg ht, List.getD_eq_getElem?_getD, List.getElem?_eq_getElem hm]
        rfl
      rw [hN]
      clear hN ht h3
      have he : ((k : Int) % (l.length : Int)).toNat = k % l.length := by omega
      have hlt : (k : Int) % (l.length : Int) < (l.length : Int) := by omega
      have hge : 0 ≤ (k : Int) % (l.length : Int) := by omega
      generalize l[k % l.length] = bb at hc ⊢
      cases bb
      all_goals
        go_enter Tryz.func39, Tryz.ntmps39
        go_wp2
        go_ret
        exact ⟨rfl, rfl⟩

theorem infoSec : (Tryz.prog.info? 79).map (·.size) = some 64 := by kernel_rfl
theorem cellsU8 : Tryz.prog.cellsOf 5 = 1 := by kernel_rfl
theorem run_part_u8 (l : List UInt8) (j : Nat) (h : j < l.length) (w : World) : (part 5 (bcs l).toArray j).run Tryz.prog w = .ok (.int .u8 (l[j].toNat : Int)) w := by
  have hagg : (isAgg 5).run Tryz.prog w = .ok false w := by
    unfold isAgg
    rw [Sem.run_bind, run_underlying Tryz.underlying5 w]
    rfl
  have hc : (bcs l).toArray[j]? = some (.int .u8 (l[j].toNat : Int)) := by simpa using bcs_at l j h
  unfold part
  rw [Sem.run_bind, hagg]
  simp only [Result.andThen_ok, Bool.false_eq_true, if_false, hc]
  rfl
theorem run_eq_u8 (d : Nat) (a b : UInt8) (w : World) : (Op.equalIn (d + 1) 5 (.int .u8 (a.toNat : Int)) (.int .u8 (b.toNat : Int))).run Tryz.prog w = .ok (decide (a = b)) w := by
  have e : ((a.toNat : Int) == (b.toNat : Int)) = decide (a = b) := by
    rw [Bool.eq_iff_iff]
    simp only [beq_iff_eq, decide_eq_true_eq, ← UInt8.toNat_inj]
    omega
  simp only [Op.equalIn, Sem.run_bind, run_underlying Tryz.underlying5 w, Result.andThen_ok, if_true, e]
  rfl
theorem run_items_sec (d : Nat) (x y : List UInt8) (w : World) (hl : x.length = y.length) : ∀ is : List Nat, (∀ j ∈ is, j < x.length) →
    (Op.eqItems (d + 1) 5 1 (bcs x).toArray (bcs y).toArray is).run Tryz.prog w = .ok (is.all fun j => decide (x[j]? = y[j]?)) w
  | [], _ => rfl
  | j :: is, h => by
    have hj := h j (by simp)
    have ih := run_items_sec d x y w hl is (fun k hk => h k (by simp [hk]))
    simp only [Op.eqItems, Sem.run_bind, Nat.mul_one, run_part_u8 x j hj w, run_part_u8 y j (by omega) w, run_eq_u8, Result.andThen_ok, List.all_cons]
    rw [List.getElem?_eq_getElem hj, List.getElem?_eq_getElem (by omega : j < y.length)]
    by_cases he : x[j] = y[j]
    · simp [he, ih]
    · simp [he]
theorem run_neq_sec (x y : List UInt8) (hx : x.length = 64) (hy : y.length = 64) (w : World) : (binOp .neq 79 (.agg (bcs x).toArray) (.agg (bcs y).toArray)).run Tryz.prog w = .ok (.bool (!decide (x = y))) w := by
  obtain ⟨i, hi⟩ : ∃ i, Tryz.prog.info? 5 = some i := by
    cases h : Tryz.prog.info? 5 with
    | none => have := infoU8; rw [h] at this; cases this
    | some i => exact ⟨i, rfl⟩
  have h1 := run_equalIn_array (P := Tryz.prog) w 9999 (bcs x).toArray (bcs y).toArray Tryz.underlying79 hi
  rw [cellsU8, run_items_sec 9998 x y w (by omega) _ (fun j hj => by rw [hx]; simpa using hj)] at h1
  have e : ((List.range 64).all fun j => decide (x[j]? = y[j]?)) = decide (x = y) := by
    rw [Bool.eq_iff_iff]
    simp only [List.all_eq_true, List.mem_range, decide_eq_true_eq]
    constructor
    · intro h
      apply List.ext_getElem?
      intro j
      by_cases hj : j < 64
      · exact h j hj
      · rw [List.getElem?_eq_none (by omega), List.getElem?_eq_none (by omega)]
    · rintro rfl j _
      rfl
  rw [e] at h1
  simp only [binOp, Op.equal, Op.maxDepth, Sem.run_bind, h1, Result.andThen_ok]
  rfl

/-- The sector i anew. -/
def upd (s : Nat → List UInt8) (i : Nat) (x : List UInt8) : Nat → List UInt8 := fun k => if k = i then x else s k
theorem Dev.row {w : World} {p : Dp} {D : Dv} (h : Dev w p D) {i : Nat} (hi : i < D.n) : (Instr.loadAt 79 (.pointer (some ⟨p.s, i * 64, none⟩))).run Tryz.prog w = .ok (.agg (bcs (D.s i)).toArray) w :=
  run_loadAt_mid w p.s (i * 64) 79 (bcs (D.s i)) _ (h.rs i hi) Tryz.underlying79 rfl (by rw [infoSec, bcs_len, h.l1 i hi])
theorem Dev.rowV {w : World} {p : Dp} {D : Dv} (h : Dev w p D) {i : Nat} (hi : i < D.n) : (loadVar 79 ⟨p.s, i * 64, none⟩).run Tryz.prog w = .ok (.agg (bcs (D.s i)).toArray) w :=
  run_loadVar_mid w p.s (i * 64) 79 (bcs (D.s i)) _ (h.rs i hi) Tryz.underlying79 rfl (by rw [infoSec, bcs_len, h.l1 i hi])
theorem sec_new (w : World) (x : List UInt8) : (w.alloc (.cells (bcs x).toArray 79)).rangeAt w.heap.size 0 (bcs x) := fun j v hv => by
  rw [cell_of_row _ _ _ _ _ (0, 0) (heap_alloc_new w _)]
  simpa using hv
theorem sec_load {w : World} {b : Nat} {x : List UInt8} (h : w.rangeAt b 0 (bcs x)) (hx : x.length = 64) : (Instr.loadAt 79 (.pointer (some ⟨b, 0, none⟩))).run Tryz.prog w = .ok (.agg (bcs x).toArray) w :=
  run_loadAt_mid w b 0 79 (bcs x) _ h Tryz.underlying79 rfl (by rw [infoSec, bcs_len, hx])
theorem sec_loadV {w : World} {b : Nat} {x : List UInt8} (h : w.rangeAt b 0 (bcs x)) (hx : x.length = 64) : (loadVar 79 ⟨b, 0, none⟩).run Tryz.prog w = .ok (.agg (bcs x).toArray) w :=
  run_loadVar_mid w b 0 79 (bcs x) _ h Tryz.underlying79 rfl (by rw [infoSec, bcs_len, hx])
theorem quiet_sec {C : World → Prop} {K : Act → Prop} {o : Oper} {a : Act} (x : Operand) (b off : Nat) (l : List UInt8) (ho : o.op = .load 79 x) (hx : a.eval x = .pointer (some ⟨b, off, none⟩))
    (hl : l.length = 64) (hc : ∀ w, C w → w.rangeAt b off (bcs l)) (hk : K (a.put o.dst (.agg (bcs l).toArray))) : o.quiet Tryz.prog a C K :=
  ⟨_, fun w hw => by
    unfold Oper.quietAt execOp
    simp only [ho, hx, Instr.loadAt, Instr.sureAddr, Sem.run_bind, Sem.run_pure, Result.andThen_ok, run_loadVar_mid w b off 79 (bcs l) _ (hc w hw) Tryz.underlying79 rfl (by rw [infoSec, bcs_len, hl])]
    exact ⟨rfl, rfl⟩, hk⟩
theorem wpQuiet_sec {ops : Array Oper} {rest : List Oper} {C : World → Prop} {Q : Act → Prop} {o : Oper} {a : Act} (hg : o.guard = none) (x : Operand) (b off : Nat) (l : List UInt8) (ho : o.op = .load 79 x) (hx : a.eval x = .pointer (some ⟨b, off, none⟩))
    (hl : l.length = 64) (hc : ∀ w, C w → w.rangeAt b off (bcs l)) (hk : wpQuiet Tryz.prog ops C Q rest (a.put o.dst (.agg (bcs l).toArray))) : wpQuiet Tryz.prog ops C Q (o :: rest) a :=
  BigFrame.wpQuiet_want (by simp [Region.wanted, hg]) (fun K hK => quiet_sec x b off l ho hx hl hc (hK _ hk))
theorem noGuard : Tryz.prog.eqGuardType Tryz.prog.depth 79 = false := by kernel_rfl
theorem wpQuiet_neq {ops : Array Oper} {rest : List Oper} {C : World → Prop} {Q : Act → Prop} {o : Oper} {a : Act} (hg : o.guard = none) (x y : Operand) (l k : List UInt8) (ho : o.op = .binOp .neq 79 x y 79) (hx : a.eval x = .agg (bcs l).toArray) (hy : a.eval y = .agg (bcs k).toArray)
    (hl : l.length = 64) (hk : k.length = 64) (r : Bool) (hr : (!decide (l = k)) = r) (h : wpQuiet Tryz.prog ops C Q rest (a.put o.dst (.bool r))) : wpQuiet Tryz.prog ops C Q (o :: rest) a :=
  BigFrame.wpQuiet_want (by simp [Region.wanted, hg]) (fun K hK => ⟨.bool r, fun w hw => by
    unfold Oper.quietAt execOp
    simp only [ho, hx, hy, Sem.run_bind, Sem.run_pure, Result.andThen_ok, run_eqGuard_agg w .neq 79 x y (bcs l).toArray (bcs k).toArray noGuard, run_neq_sec l k hl hk w, hr]
    exact ⟨rfl, rfl⟩, hK _ h⟩)
/-- A sector stored anew. -/
theorem Dev.stored {w : World} {p : Dp} {D : Dv} (h : Dev w p D) {i : Nat} (hi : i < D.n) {x : List UInt8} (hx : x.length = 64) : Dev (w.setCells p.s (i * 64) (bcs x)) p { D with s := upd D.s i x } := by
  have hk : Kp (only p.s) w (w.setCells p.s (i * 64) (bcs x)) := Kp.setCells (S := only p.s) p.s rfl _ _ _
  have hd : ¬ only p.s p.d := fun e => h.ds e
  have hm : ¬ only p.s p.m := fun e => h.sm e.symm
  have hth : w.there p.s (i * 64) 64 := fun j hj => by
    have := h.ts (i * 64 + j) (by omega)
    simpa using this
  obtain ⟨es, cl, h1, h2⟩ := h.mp
  refine ⟨hk.cell h.c0 hd, hk.cell h.c1 hd, hk.cell h.c2 hd, hk.cell h.c3 hd, hk.cell h.c4 hd, fun j => by rw [hk.frozen h.ld hd]; exact h.fd j, fun k hk' => ?_, World.there_setCells h.ts _ _ _, Nat.lt_of_lt_of_le h.ls hk.size,
    ⟨es, cl, by rw [hk.block _ h.lm hm]; exact h1, h2⟩, h.ds, h.dm, h.sm, h.n4, fun k hk' => ?_, h.l2⟩
  · by_cases e : k = i
    · subst e
      have e2 : upd D.s k x k = x := by simp [upd]
      rw [show ({ D with s := upd D.s k x } : Dv).s k = x from e2]
      exact World.rangeAt_setCells_same w p.s (k * 64) (bcs x) (by rw [bcs_len, hx]; exact hth)
    · have e2 : upd D.s i x k = D.s k := by simp [upd, e]
      rw [show ({ D with s := upd D.s i x } : Dv).s k = D.s k from e2]
      have hl := h.l1 k hk'
      refine World.rangeAt_setCells_apart (h.rs k hk') _ _ _ (.inr ?_)
      rw [bcs_len, bcs_len, hl, hx]
      omega
  · by_cases e : k = i
    · simp [upd, e, hx]
    · simp [upd, e]
      exact h.l1 k hk'
theorem Dev.same {w : World} {p : Dp} {D : Dv} (h : Dev w p D) {i : Nat} {x : List UInt8} (he : D.s i = x) : Dev w p { D with s := upd D.s i x } := by
  have e : upd D.s i x = D.s := by
    funext k
    unfold upd
    split
    · rename_i e; subst e; exact he.symm
    · rfl
  rw [e]
  exact h
set_option maxRecDepth 100000 in
set_option maxHeartbeats 400000 in
theorem settle_any (p : Dp) (D : Dv) (i : Nat) (x : List UInt8) (w : World) (hD : Dev w p D) (hi : i < D.n) (hx : x.length = 64) :
    Calls Tryz.prog 40 #[.pointer (some ⟨p.d, 0, none⟩), .int .i64 i, .agg (bcs x).toArray] w fun e w' => e = .returned (.tuple #[]) ∧ Dev w' p { D with s := upd D.s i x } ∧ Kp (only p.s) w w' := by
  have h4 := hD.n4
  have hs := hD.l1 i hi
  have hk := Kp.alloc none' w (.cells (bcs x).toArray 79)
  have hl := sec_new w x
  have HU : Hid (Tryz.prog.underlying 79 = _) := Tryz.underlying79
  have HI : Hid ((Tryz.prog.info? 79).map (·.size) = some (bcs x).length) := by show _ = _; rw [infoSec, bcs_len, hx]
  go_enter Tryz.func40, Tryz.ntmps40
  go_upto_region 1 with fail
  obtain ⟨w1, H1⟩ : ∃ w1, Hid (w1 = w.alloc (.cells (bcs x).toArray 79)) := ⟨_, rfl⟩
  rw [← H1.out] at hk hl ⊢
  have hD1 := hD.keptN hk
  have h0 := hD1.c0
  have hr := hD1.rs i hi
  have hgs : p.s ≠ w.heap.size := Nat.ne_of_lt hD.ls
  generalize w.heap.size = g at *
  by_cases he : D.s i = x
  · refine wp_region_quiet_lit (by kernel_rfl) (by kernel_rfl) ?_
    repeat (first
      | (refine wpQuiet_sec rfl _ p.s (i * 64) (D.s i) rfl rfl hs (by rintro _ ⟨n, rfl⟩; exact hr) ?_; go_frame)
      | (refine wpQuiet_sec rfl _ g 0 x rfl rfl hx (by rintro _ ⟨n, rfl⟩; exact hl) ?_; go_frame)
      | (refine wpQuiet_neq rfl _ _ (D.s i) x rfl rfl rfl hs hx false (by simp [he]) ?_; go_frame)
      | go_big_quiet_step (fail))
    refine wpQuiet_nil ?_
    rintro _ ⟨nq, rfl⟩
    go_wp2
    first | go_end0 | ((try simp only [Exit.inBlock, Exit.then]); refine bodyPost_ret (results_none rfl _ _ _) rfl ?_)
    exact ⟨rfl, (hD1.drewN _).same he, (hk.mono (fun _ _ h => h.elim)).then (Kp.drewN _ _ _)⟩
  · refine wp_region_quiet_lit (by kernel_rfl) (by kernel_rfl) ?_
    repeat (first
      | (refine wpQuiet_sec rfl _ p.s (i * 64) (D.s i) rfl rfl hs (by rintro _ ⟨n, rfl⟩; exact hr) ?_; go_frame)
      | (refine wpQuiet_sec rfl _ g 0 x rfl rfl hx (by rintro _ ⟨n, rfl⟩; exact hl) ?_; go_frame)
      | (refine wpQuiet_neq rfl _ _ (D.s i) x rfl rfl rfl hs hx true (by simp [he]) ?_; go_frame)
      | go_big_quiet_step (fail))
    refine wpQuiet_nil ?_
    rintro _ ⟨nq, rfl⟩
    go_upto_region 2 with fail
    have hD2 := (hD1.drewN nq).drew
    have hK2 : Kp (only p.s) w (w1.drewN nq).drew := ((hk.mono (fun _ _ h => h.elim)).then (Kp.drewN _ _ _)).then (Kp.drew _ _)
    have h02 := hD2.c0
    have hth : ((w1.drewN nq).drew).there p.s (i * 64) 64 := fun j hj => by
      have := hD2.ts (i * 64 + j) (by omega)
      simpa using this
    have hl2 : ((w1.drewN nq).drew).rangeAt g 0 (bcs x) := hl
    have k1 : ∀ W : World, (W.cell? ⟨p.d, 0, none⟩ = some (.slice (some ⟨p.s, 0, none⟩) D.n D.n) ∧ W.rangeAt g 0 (bcs x) ∧ W.there p.s (i * 64) 64) →
        ((W.setCells p.s (i * 64) (bcs x)).cell? ⟨p.d, 0, none⟩ = some (.slice (some ⟨p.s, 0, none⟩) D.n D.n) ∧ (W.setCells p.s (i * 64) (bcs x)).rangeAt g 0 (bcs x) ∧ (W.setCells p.s (i * 64) (bcs x)).there p.s (i * 64) 64) := fun W ⟨a, b, c⟩ =>
      ⟨(Kp.setCells (S := only p.s) p.s rfl _ _ _).cell a hD.ds, World.rangeAt_setCells_apart b _ _ _ (.inl (Ne.symm hgs)), World.there_setCells c _ _ _⟩
    have hu := HU.out
    have hI := HI.out
    have h1c := bcs_one x
    have hbl : (bcs x).length = 64 := by rw [bcs_len, hx]
    clear h0 hr hl hk hD1 hD
    go_region_held_law (fun w' => w'.cell? ⟨p.d, 0, none⟩ = some (.slice (some ⟨p.s, 0, none⟩) D.n D.n) ∧ w'.rangeAt g 0 (bcs x) ∧ w'.there p.s (i * 64) 64) (first | exact ⟨h02, hl2, hth⟩ | exact k1 _ (by assumption)) (fail)
    first | go_end0 | ((try simp only [Exit.inBlock, Exit.then]); refine bodyPost_ret (results_none rfl _ _ _) rfl ?_)
    exact ⟨rfl, hD2.stored hi hx, hK2.then (Kp.setCells (S := only p.s) p.s rfl _ _ _)⟩

end Go.Proofs.YtgfijbbibafdfaaGreat
