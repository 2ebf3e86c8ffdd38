/- Contracts, over the turned program: a cache's Kept, Hits, Misses, Pages. Conditions: those that each theorem states. -/
import Derived.Test.YtcfhgfelmofgjaaCRead
import Derived.Test.YtcfhgfelmofgjaaJP3
import Derived.Test.YtcfhgfelmofgjaaJU
namespace Go.Proofs.Ytcfhgfelmofgjaa
open Go.RowKit
open Go.ChangeMaps (setBlock)
set_option linter.unusedVariables false

theorem make_room (w : World) (n : Nat) (hn : n ≤ 1000000) : ∃ wa, (Instr.makeSlice 35 (.int .i64 0) (.int .i64 (n : Int))).run Try.prog w = .ok (.slice (some ⟨w.heap.size, 0, none⟩) 0 n) wa ∧ Ow (Value.int .i64) 3 wa w.heap.size (.slice (some ⟨w.heap.size, 0, none⟩) 0 n) [] ∧ Kp none' w wa := by
  obtain ⟨i0, hi, hz0, hz1, hz2⟩ := info_parts infoI
  have hr := run_make (P := Try.prog) w 35 3 i0 _ Try.underlying35 hi hz0 .i64 .i64 0 (n : Int) (by omega) (by omega) (by rw [hz2]; omega) (by omega)
  refine ⟨_, hr, ⟨by simp, .inr ⟨w.heap.size, n, _, rfl, Nat.le_refl _, heap_alloc_new w _, Nat.zero_le _, by unfold maxLen; omega, ?_, by simp⟩⟩, Kp.alloc _ _ _⟩
  rw [hz1]
  simp [Value.cells, madeCells]
set_option maxRecDepth 100000 in
set_option maxHeartbeats 800000 in
theorem kept1_any (x v b : Nat) (n : Int) (l : List Int) (sa : Option Addr) (sc : Nat) (w : World) (hv : w.cell? ⟨v, 0, none⟩ = some (.slice sa l.length sc)) (hf : w.frozen? ⟨v, 0, none⟩ = false) (hO : Ow (Value.int .i64) 3 w b (.slice sa l.length sc) l) (hb : b ≤ w.heap.size)
    (hvb : ∀ k, (Value.slice sa l.length sc).ownBlock = some k → k ≠ v) (hx : w.cell? ⟨x, 0, none⟩ = some (.int .i64 n)) (hl : l.length ≤ 1000) :
    Calls Try.prog 25 #[.pointer (some ⟨x, 0, none⟩), .pointer (some ⟨v, 0, none⟩)] w fun e w' => e = .returned (.tuple #[]) ∧ ∃ sa' sc', w'.cell? ⟨v, 0, none⟩ = some (.slice sa' (l.length + 1) sc') ∧ w'.frozen? ⟨v, 0, none⟩ = false ∧
      Ow (Value.int .i64) 3 w' b (.slice sa' (l.length + 1) sc') (l ++ [n]) ∧ Kp (fun k => k = v ∨ (Value.slice sa l.length sc).ownBlock = some k) w w' ∧ (∀ k, (Value.slice sa' (l.length + 1) sc').ownBlock = some k → (Value.slice sa l.length sc).ownBlock = some k ∨ w.heap.size ≤ k) := by
  obtain ⟨i0, hi, hz0, hz1, hz2⟩ := info_parts infoI
  obtain ⟨m, HM⟩ : ∃ m, Hid (l.length = m) := ⟨_, rfl⟩
  have hlt := lt_of_cell hv
  have hOw := hO
  unfold Ow at hOw
  rw [HM.out] at hv hOw hvb hl ⊢
  have hOd : w.drew.ownsRow b 3 1 (.slice sa m sc) m (l.map (Value.int .i64)) := prow_kept hOw (Kp.drew none' w) (fun _ _ h => h)
  have HB : Hid ((m + 1) * 8 ≤ 140737488355328 ∧ m + 1 ≤ maxLen) := ⟨by omega, by unfold maxLen; omega⟩
  have cd : w.drew.cell? ⟨v, 0, none⟩ = some (.slice sa m sc) := hv
  have xd : w.drew.cell? ⟨x, 0, none⟩ = some (.int .i64 n) := hx
  have ca : ∀ o, (w.drew.alloc o).cell? ⟨v, 0, none⟩ = some (.slice sa m sc) := fun o => (Kp.alloc none' w.drew o).cell cd (fun h => h)
  have HOA : Hid ((w.alloc (.cells #[.int .i64 n] 3)).drew.ownsRow b 3 1 (.slice sa m sc) m (l.map (Value.int .i64))) := World.ownsRow.alloc hOd (.cells #[.int .i64 n] 3)
  have HSR : Hid (Src Try.prog 1 35 (.slice (some ⟨w.heap.size, 0, none⟩) 1 1) 1 [.int .i64 n] (w.alloc (.cells #[.int .i64 n] 3)).drew) := src_cell w.drew 35 3 Try.underlying35 (.int .i64 n) rfl w.heap.size rfl
  have HF := hide hf
  have HV := hide hvb
  have hbd : b ≤ w.drew.heap.size := hb
  clear hO hOw hOd hf hvb
  go_enter Try.func25, Try.ntmps25
  go_region_law (first
    | (refine pstep_append (by rfl) (.tmp 3) (.tmp 9) 35 35 (by rfl) b 3 i0 _ 1 8 Try.underlying35 hi hz0 (by rfl) hz1 hz2 (.slice sa m sc) _ _ (by rfl) HOA.out _ 1 [.int .i64 n] (by rfl) HSR.out (by omega) HB.out.1 HB.out.2 (by simp; omega) ?_; intro v4 w4 ho4 hg4 hv4; obtain ⟨a4, m4, rfl⟩ := prow_shape ho4; have hk4 : Kp (fun z => (Value.slice sa m sc).ownBlock = some z) w w4 := (Kp.drew _ w).then ((Kp.alloc _ w.drew (.cells #[.int .i64 n] 3)).then (Kp.ofGrown hg4 (fun z hz _ => hz))); have c4 := hk4.cell hv (fun h => HV.out v h rfl); have f4 : w4.frozen? ⟨v, 0, none⟩ = false := by rw [hk4.frozen hlt (fun h => HV.out v h rfl)]; exact HF.out)
    | fail)
  all_goals first | go_end0 | ((try simp only [Exit.inBlock, Exit.then]); refine bodyPost_ret (results_none rfl _ _ _) rfl ?_)
  all_goals (
    have p5 := Put.set w4 v 0 (.slice a4 (m + 1) m4) _ c4
    have hsz : (w.alloc (.cells #[.int .i64 n] 3)).drew.heap.size = w.heap.size + 1 := by simp
    have hge : ∀ k, (Value.slice a4 (m + 1) m4).ownBlock = some k → (Value.slice sa m sc).ownBlock = some k ∨ w.heap.size ≤ k := fun k hk => by
      rcases hv4 with e | e
      · exact .inl (by rw [← e]; exact hk)
      · rw [e, hsz] at hk
        injection hk with hk
        exact .inr (by omega)
    have hne : ∀ k, (Value.slice a4 (m + 1) m4).ownBlock = some k → k ≠ v := fun k hk e => by
      rcases hge k hk with h1 | h1
      · exact HV.out k h1 e
      · omega
    refine ⟨rfl, a4, m4, p5.same, by rw [p5.fr]; exact f4, ?_, (hk4.mono (fun k _ e => .inr e)).then (p5.kp.mono (fun k _ e => .inl e)), hge⟩
    unfold Ow
    rw [List.length_append, HM.out, List.map_append]
    exact prow_kept ho4 p5.kp (fun k hk e => hne k hk e))
/-- What Kept has gathered so far: in its variable v, in rows of its own. -/
structure Gat (w W : World) (v box : Nat) (N : Nat → Int) (p : List Nat) : Prop where
  sl : ∃ sa sc, W.cell? ⟨v, 0, none⟩ = some (.slice sa p.length sc) ∧ Ow (Value.int .i64) 3 W w.heap.size (.slice sa p.length sc) (p.map N) ∧ ∀ k, (Value.slice sa p.length sc).ownBlock = some k → k ≠ v ∧ k ≠ box
  fr : W.frozen? ⟨v, 0, none⟩ = false
  kp : Kp none' w W
  bx : box < W.heap.size
set_option maxRecDepth 100000 in
set_option maxHeartbeats 800000 in
theorem ckept_any {w : World} {q : Cq} {F : Nat → Prop} {D : Dv} {Q : Nat → ByteArray} {M cm : Int} {K : List Int} {h mi : Int} (H : Cas w q F D Q M cm K h mi) :
    Calls Try.prog 10 #[.pointer (some ⟨q.c, 0, none⟩)] w fun e w' => ∃ v, e = .returned v ∧ Ow (Value.int .i64) 3 w' w.heap.size v K ∧ Kp none' w w' := by
  obtain ⟨L, N, T, HA, rfl, hl, hF⟩ := H
  obtain ⟨es, cl, c, hm, hM, hO⟩ := HA.mc
  obtain ⟨ah, be, hr⟩ := HA.rg
  have hlen : es.size = L.length := by have := hO.size hM HA.nd; simpa using this
  have hlz := run_lenI (w := w) (ty := 3) Try.underlying48 (m := q.m) hm
  have hsm := HA.sm
  have hl64 : L.length ≤ 64 := by rw [List.length_map] at hl; omega
  rw [hlen] at hlz
  obtain ⟨wa, hmk, hOw, hka⟩ := make_room w L.length (by omega)
  have hop := copen_any q.c q.g w HA.cc.c0
  have c3 := HA.cc.c3
  obtain ⟨b, HB⟩ : ∃ b, Hid (w.heap.size = b) := ⟨_, rfl⟩
  have hba : b < wa.heap.size := by
    have := hOw.lt b (by rw [← HB.out]; rfl)
    exact this.2
  have k1 := Kp.alloc none' wa (.cells #[.slice (some ⟨b, 0, none⟩) 0 L.length] 35)
  have r1 := new_cell wa #[.slice (some ⟨b, 0, none⟩) 0 L.length] 35 0 _ rfl
  have f1 := new_frozen wa #[.slice (some ⟨b, 0, none⟩) 0 L.length] 35 0
  have hO1 := hOw.keptN k1
  have s1 : (wa.alloc (.cells #[.slice (some ⟨b, 0, none⟩) 0 L.length] 35)).heap.size = wa.heap.size + 1 := by simp
  obtain ⟨v, HV⟩ : ∃ v, Hid (wa.heap.size = v) := ⟨_, rfl⟩
  rw [HB.out] at hmk hO1
  rw [HV.out] at r1 f1 s1 hba
  obtain ⟨W1, H1⟩ : ∃ W1, Hid (wa.alloc (.cells #[.slice (some ⟨b, 0, none⟩) 0 L.length] 35) = W1) := ⟨_, rfl⟩
  rw [H1.out] at k1 r1 f1 hO1 s1
  have K1 : Kp none' w W1 := hka.then k1
  have hr1 := hr.kept K1 (fun _ _ h => h)
  have c2 := K1.cell HA.cc.c2 (fun h => h)
  have hea := each_any (w := W1) (I := fun p W => Gat w W v W1.heap.size N p) 25 #[.pointer (some ⟨v, 0, none⟩)] (by intro args W; rfl) hr1
    (fun W hW hs => ⟨⟨some ⟨b, 0, none⟩, L.length, hW.cell r1 (fun h => h), by rw [HB.out]; exact hO1.keptN hW, fun k hk => by
      have e : b = k := by injection hk
      omega⟩, by rw [hW.frozen (lt_of_cell r1) (fun h => h)]; exact f1, K1.then hW, hs⟩)
    (fun p W hG => hr.rm.kept hG.kp (fun _ _ h => h))
    (fun p x r W hL hG => by
      obtain ⟨sa, sc, g1, g2, g3⟩ := hG.sl
      have hx := (hr.rm.kept hG.kp (fun _ _ h => h) x (by rw [hL]; simp)).c0
      have hpl : (p.map N).length = p.length := List.length_map ..
      have hlp : p.length ≤ 64 := by
        have := congrArg List.length hL
        simp at this
        omega
      have hc := kept1_any x v w.heap.size (N x) (p.map N) sa sc W (by rw [hpl]; exact g1) hG.fr (by rw [hpl]; exact g2) hG.kp.size (by rw [hpl]; exact fun k hk => (g3 k hk).1) hx (by omega)
      rw [hpl] at hc
      refine hc.mono ?_
      rintro e W' ⟨rfl, sa', sc', q1, q2, q3, q4, q5⟩
      have hbx : ¬ (W1.heap.size = v ∨ (Value.slice sa p.length sc).ownBlock = some W1.heap.size) := fun e => by
        rcases e with e | e
        · omega
        · exact (g3 _ e).2 rfl
      have hblk := q4.block W1.heap.size hG.bx hbx
      have hkw : Kp none' w W' := hG.kp.trans q4 (fun _ _ h => h) (fun k hk e => by
        rcases e with e | e
        · have := HV.out; have := hka.size; omega
        · have := (g2.lt k e).1; omega)
      refine ⟨rfl, ⟨⟨sa', sc', by rw [List.length_append]; exact q1, by rw [List.length_append, List.map_append]; exact q3, fun k hk => ?_⟩, q2, hkw, Nat.lt_of_lt_of_le hG.bx q4.size⟩, by unfold World.cell?; simp only [hblk]⟩
      rw [List.length_append] at hk
      rcases q5 k hk with e | e
      · exact g3 k e
      · have := hG.bx
        have := lt_of_cell g1
        omega)
  go_enter Try.func10, Try.ntmps10
  go_upto_region 4 with (first
    | (go_at_call 20; refine hop.mono ?_; rintro e w' ⟨rfl, rfl⟩)
    | (at_make; refine wpList_make_at rfl (.const (.int .i64 0)) (.tmp 11) 35 rfl _ _ rfl rfl hmk ?_)
    | fail)
  rw [H1.out, HV.out]
  go_upto_region 5 with (first
    | (go_at_call 24; refine hea.mono ?_; rintro e w8 ⟨rfl, hG⟩)
    | fail)
  obtain ⟨sa, sc, g1, g2, g3⟩ := hG.sl
  go_wp2
  go_ret
  exact ⟨_, rfl, g2, hG.kp⟩
set_option maxRecDepth 100000 in
set_option maxHeartbeats 400000 in
theorem ckept_nil (w : World) : Calls Try.prog 10 #[.pointer none] w fun e w' => e = .returned (.slice none 0 0) ∧ w' = w := by
  have hop := copen_nil w
  go_enter Try.func10, Try.ntmps10
  go_wp2_with (first
    | (go_at_call 20; refine hop.mono ?_; rintro e w' ⟨rfl, rfl⟩)
    | fail)
  go_ret
  exact ⟨rfl, rfl⟩
set_option maxRecDepth 100000 in
set_option maxHeartbeats 400000 in
theorem chits_nil (w : World) : Calls Try.prog 12 #[.pointer none] w fun e w' => e = .returned (.int .i64 0) ∧ w' = w := by
  have hop := copen_nil w
  go_enter Try.func12, Try.ntmps12
  go_wp2_with (first
    | (go_at_call 20; refine hop.mono ?_; rintro e w' ⟨rfl, rfl⟩)
    | fail)
  go_ret
  exact ⟨rfl, rfl⟩
set_option maxRecDepth 100000 in
set_option maxHeartbeats 400000 in
theorem cmisses_nil (w : World) : Calls Try.prog 13 #[.pointer none] w fun e w' => e = .returned (.int .i64 0) ∧ w' = w := by
  have hop := copen_nil w
  go_enter Try.func13, Try.ntmps13
  go_wp2_with (first
    | (go_at_call 20; refine hop.mono ?_; rintro e w' ⟨rfl, rfl⟩)
    | fail)
  go_ret
  exact ⟨rfl, rfl⟩
set_option maxRecDepth 100000 in
set_option maxHeartbeats 400000 in
theorem cpages_nil (w : World) : Calls Try.prog 14 #[.pointer none] w fun e w' => e = .returned (.int .i64 0) ∧ w' = w := by
  have hop := copen_nil w
  go_enter Try.func14, Try.ntmps14
  go_wp2_with (first
    | (go_at_call 20; refine hop.mono ?_; rintro e w' ⟨rfl, rfl⟩)
    | fail)
  go_ret
  exact ⟨rfl, rfl⟩
set_option maxRecDepth 100000 in
set_option maxHeartbeats 400000 in
theorem chits_any {w : World} {q : Cq} {F : Nat → Prop} {D : Dv} {Q : Nat → ByteArray} {M cm : Int} {K : List Int} {h mi : Int} (H : Cas w q F D Q M cm K h mi) : Calls Try.prog 12 #[.pointer (some ⟨q.c, 0, none⟩)] w fun e w' => e = .returned (.int .i64 h) ∧ w' = w := by
  obtain ⟨L, N, T, HA, rfl, hl, hF⟩ := H
  have hop := copen_any q.c q.g w HA.cc.c0
  have c4 := HA.cc.c4
  go_enter Try.func12, Try.ntmps12
  go_wp2_with (first
    | (go_at_call 20; refine hop.mono ?_; rintro e w' ⟨rfl, rfl⟩)
    | fail)
  go_ret
  exact ⟨rfl, rfl⟩
set_option maxRecDepth 100000 in
set_option maxHeartbeats 400000 in
theorem cmisses_any {w : World} {q : Cq} {F : Nat → Prop} {D : Dv} {Q : Nat → ByteArray} {M cm : Int} {K : List Int} {h mi : Int} (H : Cas w q F D Q M cm K h mi) : Calls Try.prog 13 #[.pointer (some ⟨q.c, 0, none⟩)] w fun e w' => e = .returned (.int .i64 mi) ∧ w' = w := by
  obtain ⟨L, N, T, HA, rfl, hl, hF⟩ := H
  have hop := copen_any q.c q.g w HA.cc.c0
  have c5 := HA.cc.c5
  go_enter Try.func13, Try.ntmps13
  go_wp2_with (first
    | (go_at_call 20; refine hop.mono ?_; rintro e w' ⟨rfl, rfl⟩)
    | fail)
  go_ret
  exact ⟨rfl, rfl⟩
set_option maxRecDepth 100000 in
set_option maxHeartbeats 400000 in
theorem cpages_any {w : World} {q : Cq} {F : Nat → Prop} {D : Dv} {Q : Nat → ByteArray} {M cm : Int} {K : List Int} {h mi : Int} (H : Cas w q F D Q M cm K h mi) : Calls Try.prog 14 #[.pointer (some ⟨q.c, 0, none⟩)] w fun e w' => e = .returned (.int .i64 (q.n : Int)) ∧ w' = w := by
  obtain ⟨L, N, T, HA, rfl, hl, hF⟩ := H
  have hop := copen_any q.c q.g w HA.cc.c0
  have c0 := HA.cc.c0
  have hsi := psize_any q.g (q.n : Int) w HA.hP.c1
  go_enter Try.func14, Try.ntmps14
  go_wp2_with (first
    | (go_at_call 20; refine hop.mono ?_; rintro e w' ⟨rfl, rfl⟩)
    | (go_at_call 26; refine hsi.mono ?_; rintro e w' ⟨rfl, rfl⟩)
    | fail)
  go_ret
  exact ⟨rfl, rfl⟩

end Go.Proofs.Ytcfhgfelmofgjaa
