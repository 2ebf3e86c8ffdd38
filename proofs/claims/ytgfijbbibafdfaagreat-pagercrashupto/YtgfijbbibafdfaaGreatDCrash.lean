/- Contracts, over the turned program: a device's Crash. Conditions: those that each theorem states. -/
import Derived.Test.YtgfijbbibafdfaaGreatDUnsure
namespace Go.Proofs.YtgfijbbibafdfaaGreat
open Go.RowKit
open Go.ChangeMaps (setBlock)
set_option linter.unusedVariables false

/-- The first c bytes of b, the others of a. -/
def mixS (a b : List UInt8) (c : Nat) : List UInt8 := b.take c ++ a.drop c
theorem mixS_len {a b : List UInt8} (c : Nat) (ha : a.length = 64) (hb : b.length = 64) (hc : c ≤ 64) : (mixS a b c).length = 64 := by simp [mixS]; omega
/-- What is sure behind the first j unsure sectors of a crash. -/
def crN (D : Dv) (l : List Bool) (torn cut : Int) : Nat → Nat → List UInt8
  | 0 => D.s
  | j + 1 => upd (crN D l torn cut j) ((unsL D).getD j 0) (mixS (crN D l torn cut j ((unsL D).getD j 0)) (lookV D.u ((unsL D).getD j 0)) (staysN j l torn cut))
/-- Behind a crash. -/
def Dv.crash (D : Dv) (l : List Bool) (torn cut : Int) : Dv := { D with s := crN D l torn cut (unsL D).length, u := fun _ => none, st := false, f := 0 }

theorem range_mix {W : World} {g : Nat} {x y : List UInt8} (c : Nat) (hx : x.length = 64) (hy : y.length = 64) (hc : c ≤ 64) (hr : W.rangeAt g 0 (bcs x)) (ht : W.there g 0 64) : (W.setCells g 0 ((bcs y).take c)).rangeAt g 0 (bcs (mixS x y c)) := by
  have hl : ((bcs y).take c).length = c := by rw [List.length_take, bcs_len, hy]; omega
  intro j v hv
  have hj : j < 64 := by have := (List.getElem?_eq_some_iff.1 hv).1; rw [bcs_len, mixS_len c hx hy hc] at this; exact this
  have e : bcs (mixS x y c) = (bcs y).take c ++ (bcs x).drop c := by unfold mixS; rw [bcs_append]; simp [bcs, List.map_take, List.map_drop]
  rw [e] at hv
  by_cases h : j < c
  · rw [List.getElem?_append_left (by omega)] at hv
    obtain ⟨h1, h2⟩ := List.getElem?_eq_some_iff.1 hv
    rw [World.cell?_setCells_in g ((bcs y).take c) 0 W (fun i hi => (ht i (by omega)).1) j (by omega), h2]
  · rw [List.getElem?_append_right (by omega), hl, List.getElem?_drop, show c + (j - c) = j by omega] at hv
    rw [World.cell?_setCells_out g _ 0 W _ (fun _ _ => .inr (by rw [hl]; show 0 + c ≤ 0 + j; omega))]
    exact hr j v hv

theorem step_copy_at {P : Program} {ops : Array Oper} {o : Oper} {a : Act} {w : World} {K : Act → World → Prop} {Q : Exit → Act → World → Prop} {E : Prop}
    (hg : o.guard = none) (d x : Operand) (dT sT : TypeId) (hop : o.op = Op.call { callee := Callee.builtin Builtin.copy, args := #[d, x], argTypes := #[dT, sT] })
    (v u : Value) (hd : a.eval d = v) (hx : a.eval x = u) {v' : Value} {w' : World} (hr : (Builtin.copy_ #[dT, sT] o.type #[v, u]).run P w = .ok v' w') (hK : K (a.put o.dst v') w') :
    if Region.wanted o (yielded ops a.tmps) = true then Oper.wp P o a w K Q else E := by
  have hw : Region.wanted o (yielded ops a.tmps) = true := by simp [Region.wanted, hg]
  rw [if_pos hw]
  unfold Oper.wp
  simp [execOp, hop, resolve, invoke, builtin, hd, hx, hr, Result.andThen]
  exact hK
theorem run_copy_mix {W : World} {g10 g11 : Nat} {y : List UInt8} (c : Nat) (hy : y.length = 64) (hc : c ≤ 64) (hr : W.rangeAt g11 0 (bcs y)) (ht : W.there g10 0 64) (ty : TypeId) :
    (Builtin.copy_ #[39, 39] ty #[.slice (some ⟨g10, 0, none⟩) 64 64, .slice (some ⟨g11, 0, none⟩) c 64]).run Tryz.prog W = .ok (goInt c) (W.setCells g10 0 ((bcs y).take c)) := by
  have hl : ((bcs y).take c).length = c := by rw [List.length_take, bcs_len, hy]; omega
  have := run_copy_cells (P := Tryz.prog) W 39 39 ty 5 g10 0 64 64 ⟨g11, 0, none⟩ c 64 ((bcs y).take c) Tryz.underlying39 (by kernel_rfl) (by rw [hl]; exact (Nat.min_eq_left hc).symm)
    (fun j v hv => by
      have hj : j < c := by have := (List.getElem?_eq_some_iff.1 hv).1; omega
      rw [List.getElem?_take_of_lt hj] at hv
      have e : (⟨g11, 0, none⟩ : Addr).add j = ⟨g11, 0 + j, none⟩ := by unfold Addr.add; split <;> simp_all
      rw [e]
      exact hr j v hv) (fun j hj => (ht j (by omega)).1) (fun j hj => (ht j (by omega)).2) (fun v hv => bcs_one y v (List.mem_of_mem_take hv))
  rw [hl] at this
  exact this

set_option maxHeartbeats 400000 in
theorem crash_nil (kv : Value) (torn cut : Int) (w : World) : Calls Tryz.prog 17 #[.pointer none, kv, .int .i64 torn, .int .i64 cut] w fun e w' => e = .returned (.tuple #[]) ∧ w' = w := by
  go_enter Tryz.func17, Tryz.ntmps17
  go_wp2
  first | go_end0 | ((try simp only [Exit.inBlock, Exit.then]); refine bodyPost_ret (results_none rfl _ _ _) rfl ?_)
  exact ⟨rfl, rfl⟩

set_option maxRecDepth 100000 in
set_option maxHeartbeats 1600000 in
theorem crash_any (p : Dp) (D : Dv) (kv : Value) (l : List Bool) (torn cut : Int) (B : Nat) (w : World) (hD : Dev w p D) (hc0 : 0 ≤ D.c) (hc1 : D.c ≤ 1000000) (hK : Sl Value.bool B w kv l) (hB : ∀ k, p.mem k → B ≤ k) :
    Calls Tryz.prog 17 #[.pointer (some ⟨p.d, 0, none⟩), kv, .int .i64 torn, .int .i64 cut] w fun e w' => e = .returned (.tuple #[]) ∧ Dev w' p (D.crash l torn cut) ∧ Kp p.mem w w' := by
  have h4 := hD.n4
  have hul := unsL_le D
  go_enter Tryz.func17, Tryz.ntmps17
  go_upto_region 1 with fail
  refine wp_region_lit ?_
  go_wp2_with (go_at_call 38; refine (unsure_any _ _ _ hD).mono ?_; rintro e w1 ⟨v, rfl, hO, hk1⟩; obtain ⟨a, c, rfl, ha⟩ := hO.open)
  have hD1 := hD.keptN hk1
  have hK1 : Sl Value.bool B w1 kv l := hK.kept hk1 (fun _ _ h => h)
  have hlI := unsI_len D
  rw [hlI]
  have hml := fun k hk => hD.lt k hk
  clear hD hK hO
  go_loopw [17] (fun t wr => ∃ j : Nat, j ≤ (unsL D).length ∧ t = .int .i64 j ∧ Dev wr p { D with s := crN D l torn cut j } ∧ Kp p.mem w1 wr) (fun t _ => (unsL D).length - (intOf t).toNat)
  case atStart => exact ⟨0, Nat.zero_le _, rfl, hD1, Kp.refl _ _⟩
  case round =>
    obtain ⟨j, hj, rfl, hDr, hKr⟩ := hrel
    clear hD1
    by_cases hlt : j < (unsL D).length
    · obtain ⟨gv, rfl, hgb, hcv⟩ := ha j (by rw [hlI]; exact hlt)
      have hcv' := hKr.cell hcv (fun h => by have := hml _ h; omega)
      have eI : (unsI D)[j]'(by rw [hlI]; exact hlt) = ((unsL D)[j] : Int) := by simp [unsI]
      rw [eI] at hcv'
      obtain ⟨i, Hi⟩ : ∃ i, Hid ((unsL D)[j]'hlt = i) := ⟨_, rfl⟩
      rw [Hi.out] at hcv'
      have hin : i < D.n := by rw [← Hi.out]; exact unsL_lt D _ (List.getElem_mem _)
      have hui : ∃ y, D.u i = some y := by
        have := (List.mem_filter.1 (List.getElem_mem hlt : (unsL D)[j] ∈ unsL D)).2
        rw [Hi.out] at this
        exact Option.isSome_iff_exists.1 (by simpa using this)
      obtain ⟨y, hy⟩ := hui
      have hyl := (hDr.l2 i y hy).2
      have hyv : lookV D.u i = y := by simp [lookV, hy]
      obtain ⟨x, Hx⟩ : ∃ x, Hid (crN D l torn cut j i = x) := ⟨_, rfl⟩
      have hxl : x.length = 64 := by rw [← Hx.out]; exact hDr.l1 i hin
      clear ha hcv eI
      go_upto_region 4 with fail
      have hrs := hDr.rs i hin
      have hd0 := hDr.c0
      have hd1 := hDr.c1
      obtain ⟨es, cl, hm, hM⟩ := hDr.mp
      have hlk : ∀ W : World, W.heap[p.m]? = some (.map es cl) → (Instr.lookup 62 (.map (some p.m)) (.int .i64 (i : Int)) false).run Tryz.prog W = .ok (.agg (bcs y).toArray) W := fun W hW => by
        have := run_look hW hM i false
        rw [show lookV ({ D with s := crN D l torn cut j } : Dv).u i = y from hyv] at this
        exact this
      rw [show ({ D with s := crN D l torn cut j } : Dv).s i = x from Hx.out] at hrs
      have hu : Tryz.prog.underlying 79 = _ := Tryz.underlying79
      have hIx : (Tryz.prog.info? 79).map (·.size) = some (bcs x).length := by rw [infoSec, bcs_len, hxl]
      have hIy : (Tryz.prog.info? 79).map (·.size) = some (bcs y).length := by rw [infoSec, bcs_len, hyl]
      have h1x := bcs_one x
      have h1y := bcs_one y
      have hbx : (bcs x).length = 64 := by rw [bcs_len, hxl]
      have hby : (bcs y).length = 64 := by rw [bcs_len, hyl]
      have kS : ∀ W : World, Kp none' wr W → (Kp none' wr W ∧ W.cell? ⟨p.d, 0, none⟩ = some (.slice (some ⟨p.s, 0, none⟩) D.n D.n) ∧ W.cell? ⟨p.d, 1, none⟩ = some (.map (some p.m)) ∧ W.rangeAt p.s (i * 64) (bcs x) ∧ W.heap[p.m]? = some (.map es cl)) := fun W hW =>
        ⟨hW, hW.cell hd0 (fun h => h), hW.cell hd1 (fun h => h), hW.rangeAt hrs (fun h => h), by rw [hW.block _ hDr.lm (fun h => h)]; exact hm⟩
      have hmlr := hDr.lm
      have hzl : (bcs noughts).toArray = #[.int .u8 0, .int .u8 0, .int .u8 0, .int .u8 0, .int .u8 0, .int .u8 0, .int .u8 0, .int .u8 0, .int .u8 0, .int .u8 0, .int .u8 0, .int .u8 0, .int .u8 0, .int .u8 0, .int .u8 0, .int .u8 0, .int .u8 0, .int .u8 0, .int .u8 0, .int .u8 0, .int .u8 0, .int .u8 0, .int .u8 0, .int .u8 0, .int .u8 0, .int .u8 0, .int .u8 0, .int .u8 0, .int .u8 0, .int .u8 0, .int .u8 0, .int .u8 0, .int .u8 0, .int .u8 0, .int .u8 0, .int .u8 0, .int .u8 0, .int .u8 0, .int .u8 0, .int .u8 0, .int .u8 0, .int .u8 0, .int .u8 0, .int .u8 0, .int .u8 0, .int .u8 0, .int .u8 0, .int .u8 0, .int .u8 0, .int .u8 0, .int .u8 0, .int .u8 0, .int .u8 0, .int .u8 0, .int .u8 0, .int .u8 0, .int .u8 0, .int .u8 0, .int .u8 0, .int .u8 0, .int .u8 0, .int .u8 0, .int .u8 0, .int .u8 0] := rfl
      have hg0 : wr.heap.size < wr.heap.size + 1 := Nat.lt_succ_self _
      have a1 : (wr.alloc (.cells (bcs noughts).toArray 79)).heap.size = wr.heap.size + 1 := by simp
      have q1 : Kp none' wr (wr.alloc (.cells (bcs noughts).toArray 79)).drew := (Kp.alloc _ _ _).then (Kp.drew _ _)
      have q2 : Kp none' wr ((wr.alloc (.cells (bcs noughts).toArray 79)).alloc (.cells (bcs noughts).toArray 79)).drew := ((Kp.alloc _ _ _).then (Kp.alloc _ _ _)).then (Kp.drew _ _)
      have t1 : ((wr.alloc (.cells (bcs noughts).toArray 79)).alloc (.cells (bcs noughts).toArray 79)).drew.there wr.heap.size 0 64 := by
        have := (Kp.alloc none' (wr.alloc (.cells (bcs noughts).toArray 79)) (.cells (bcs noughts).toArray 79)).there (sec_there wr noughts) (fun h => h)
        rw [noughts_len] at this
        exact this
      have t2 : ((wr.alloc (.cells (bcs noughts).toArray 79)).alloc (.cells (bcs noughts).toArray 79)).drew.there (wr.heap.size + 1) 0 64 := by
        have := sec_there (wr.alloc (.cells (bcs noughts).toArray 79)) noughts
        rw [noughts_len, a1] at this
        exact this
      rw [hzl] at q1 q2 t1 t2
      clear hzl a1
      have kA : ∀ (W : World) (b : Nat) (L : List Value), wr.heap.size ≤ b → Kp none' wr W → Kp none' wr (W.setCells b 0 L) := fun W b L hb hW => hW.trans (Kp.setCells (S := only b) b rfl L 0 W) (fun _ _ h => h) (fun k hk h => absurd hk (by unfold only at h; omega))
      have q3a := kA _ wr.heap.size (bcs x) (Nat.le_refl _) q2
      have q3b := kA _ (wr.heap.size + 1) (bcs x) (Nat.le_succ _) q2
      have q4a := kA _ (wr.heap.size + 1) (bcs y) (Nat.le_succ _) q3a
      have q4b := kA _ wr.heap.size (bcs y) (Nat.le_refl _) q3b
      have t3a := World.there_setCells t2 wr.heap.size 0 (bcs x)
      have t3b := World.there_setCells t1 (wr.heap.size + 1) 0 (bcs x)
      have r1 := World.rangeAt_setCells_apart (World.rangeAt_setCells_same _ _ _ _ (by rw [hbx]; exact t1) : World.rangeAt _ wr.heap.size 0 (bcs x)) (wr.heap.size + 1) 0 (bcs y) (.inl (by omega))
      have r2 := World.rangeAt_setCells_apart (World.rangeAt_setCells_same _ _ _ _ (by rw [hbx]; exact t2) : World.rangeAt _ (wr.heap.size + 1) 0 (bcs x)) wr.heap.size 0 (bcs y) (.inl (by omega))
      have r3 : World.rangeAt _ (wr.heap.size + 1) 0 (bcs y) := World.rangeAt_setCells_same _ _ _ _ (by rw [hby]; exact t3a)
      have r4 : World.rangeAt _ wr.heap.size 0 (bcs y) := World.rangeAt_setCells_same _ _ _ _ (by rw [hby]; exact t3b)
      have t4 := World.there_setCells (World.there_setCells t1 wr.heap.size 0 (bcs x)) (wr.heap.size + 1) 0 (bcs y)
      have t5 := World.there_setCells (World.there_setCells t2 (wr.heap.size + 1) 0 (bcs x)) wr.heap.size 0 (bcs y)
      go_cut [10, 11] from 22 to 34 (fun t10 t11 W => ∃ g10 g11, t10 = .pointer (some ⟨g10, 0, none⟩) ∧ t11 = .pointer (some ⟨g11, 0, none⟩) ∧ W.rangeAt g10 0 (bcs x) ∧ W.rangeAt g11 0 (bcs y) ∧ W.there g10 0 64 ∧ Kp none' wr W ∧ wr.heap.size ≤ g10)
      case rest =>
        obtain ⟨g10, g11, rfl, rfl, hr10, hr11, ht10, hkc, hg10⟩ := hcut
        clear r1 r2 r3 r4 t1 t2 t3a t3b t4 t5 q1 q2 q3a q3b q4a q4b kS kA hlk hd0 hd1 hrs hm hM
        have hDc := hDr.keptN hkc
        have hKc : Sl Value.bool B wc.drew kv l := (((hK1.kept hKr (fun k hk h => by have := hB k h; omega))).kept hkc (fun _ _ h => h)).kept (Kp.drew none' wc) (fun _ _ h => h)
        have hN := staysN_le j l torn cut
        obtain ⟨N, HN⟩ : ∃ N, Hid (staysN j l torn cut = N) := ⟨_, rfl⟩
        rw [HN.out] at hN
        have hN' : (N : Int) ≤ 64 := by omega
        have hcp := run_copy_mix (W := wc.drew) N hyl hN hr11 ht10 3
        have hmx := range_mix (W := wc.drew) N hxl hyl hN hr10 ht10
        have hml64 := mixS_len N hxl hyl hN
        have hkm : Kp none' wr (wc.drew.setCells g10 0 ((bcs y).take N)) := (hkc.then (Kp.drew _ _)).trans (Kp.setCells (S := only g10) g10 rfl _ 0 _) (fun _ _ h => h) (fun k hk h => absurd hk (by unfold only at h; omega))
        go_upto_region 5 with fail
        have hj4 : j ≤ 4096 := by omega
        clear hr10 hr11 ht10 hcv'
        go_region_held_law (fun _ => True) (trivial) (first
          | (refine step_copy_at (by rfl) (.tmp 35) (.tmp 41) 39 39 (by rfl) _ _ (by rfl) (by rfl) hcp ?_)
          | (go_at_call 39; refine (stays_any j kv l torn cut B _ hj4 hKc).mono ?_; rintro e w' ⟨rfl, rfl⟩; rw [HN.out])
          | fail)
        obtain ⟨wm, Hm⟩ : ∃ wm, Hid (wc.drew.setCells g10 0 ((bcs y).take N) = wm) := ⟨_, rfl⟩
        rw [Hm.out] at hmx hkm ⊢
        have hDm := hDr.keptN hkm
        have hIm : (Tryz.prog.info? 79).map (·.size) = some (bcs (mixS x y N)).length := by rw [infoSec, bcs_len, hml64]
        have HC : Hid (upd (crN D l torn cut j) i (mixS x y N) = crN D l torn cut (j + 1)) := by
          show _ = _
          have hgd : (unsL D).getD j 0 = i := by rw [List.getD_eq_getElem?_getD, List.getElem?_eq_getElem hlt, ← Hi.out]; rfl
          simp only [crN, hgd, hyv, HN.out]
          rw [Hx.out]
        obtain ⟨M, HM⟩ : ∃ M, Hid (mixS x y N = M) := ⟨_, rfl⟩
        rw [HM.out] at hmx hIm hml64 HC
        clear hcp hkc hDc hKc hN hN' hIx hIy h1x h1y hbx hby hlI hg0
        go_wp2_with (first
          | (refine wpList_load_mid rfl 79 (.tmp 10) rfl g10 0 rfl (bcs M) _ hmx hu rfl hIm ?_)
          | (go_at_call 40; refine (settle_any p { D with s := crN D l torn cut j } i M _ hDm hin hml64).mono ?_; rintro e' w6 ⟨rfl, hD6, hk6⟩)
          | fail)
        have hD7 : Dev w6 p { D with s := crN D l torn cut (j + 1) } := by rw [← HC.out]; exact hD6
        have hK7 : Kp p.mem w1 w6 := (hKr.thenN hkm).then (hk6.mono (fun k _ h => .inr (.inl h)))
        go_roundw
        case rel => exact ⟨j + 1, by omega, by go_num, hD7, hK7⟩
        case measure => simp [intOf]; omega
      case first =>
        go_region_held_law (fun W => Kp none' wr W ∧ W.cell? ⟨p.d, 0, none⟩ = some (.slice (some ⟨p.s, 0, none⟩) D.n D.n) ∧ W.cell? ⟨p.d, 1, none⟩ = some (.map (some p.m)) ∧ W.rangeAt p.s (i * 64) (bcs x) ∧ W.heap[p.m]? = some (.map es cl))
          (first | assumption | exact kS _ (Kp.drew _ _) | exact kS _ q1 | exact kS _ q2 | exact kS _ q3a | exact kS _ q3b | exact kS _ q4a | exact kS _ q4b) (fail)
        all_goals
          have HQ := hide (And.intro r1 (And.intro r2 (And.intro r3 (And.intro r4 (And.intro t4 (And.intro t5 (And.intro q4a q4b)))))))
          clear kS kA q1 q2 q3a q3b t1 t2 t3a t3b r1 r2 r3 r4 t4 t5 q4a q4b hlk
          go_wp2
          obtain ⟨r1, r2, r3, r4, t4, t5, q4a, q4b⟩ := HQ.out
          go_meet
          case rel => first | exact ⟨wr.heap.size, wr.heap.size + 1, rfl, rfl, r1, r3, t4, q4a, Nat.le_refl _⟩ | exact ⟨wr.heap.size + 1, wr.heap.size, rfl, rfl, r2, r4, t5, q4b, Nat.le_succ _⟩
    · obtain rfl : j = (unsL D).length := by omega
      have h1r := hDr.c1
      obtain ⟨es, cl, hm, hM⟩ := hDr.mp
      have hcl := fun ty => run_clearM ty hm
      have hF := hDr.setM #[] cl (fun _ => none) (Mp.nil cl) (fun i x h => by cases h)
      have HE : Hid ((({ ({ D with s := crN D l torn cut (unsL D).length } : Dv) with u := fun _ => none } : Dv).stop (-1)) = D.crash l torn cut) := by
        show _ = _
        unfold Dv.stop Dv.crash
        rw [if_neg (by omega)]
      clear ha hm
      go_wp2_with (first
        | (refine wpList_clear_at _ rfl (.tmp 51) 62 rfl _ rfl (hcl _) ?_)
        | (go_at_call 14; refine (stop_any p _ (-1) _ hF hc0 hc1).mono ?_; rintro e' w6 ⟨rfl, hD6, hk6⟩)
        | fail)
      first | go_end0 | ((try simp only [Exit.inBlock, Exit.then]); refine bodyPost_ret (results_none rfl _ _ _) rfl ?_)
      rw [HE.out] at hD6
      exact ⟨rfl, hD6, ((hk1.mono (fun _ _ h => h.elim)).then hKr).then ((Kp.setBlock _ _ _ (.inr (.inr rfl))).then hk6)⟩

end Go.Proofs.YtgfijbbibafdfaaGreat
