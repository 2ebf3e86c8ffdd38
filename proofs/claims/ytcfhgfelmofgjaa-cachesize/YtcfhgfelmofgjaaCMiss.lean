/- Contracts, over the turned program: a page kept no more, a page kept. Conditions: those that each theorem states. -/
import Derived.Test.YtcfhgfelmofgjaaCCache
import Derived.Deep.RegionLaw
namespace Go.Proofs.Ytcfhgfelmofgjaa
open Go.RowKit
open Go.ChangeMaps (setBlock)
set_option linter.unusedVariables false

theorem Mc.del {w' : World} {m : Nat} {L : List Nat} {x : Nat} {N : Nat → Int} {es : Array MapEntry} {cl : Nat} {c : Int → Option Value} (hb : w'.heap[m]? = some (.map es cl)) (hM : Mi (delI c (N x)) es.toList cl) (hO : MapOf (L ++ [x]) N c) (hnd : ((L ++ [x]).map N).Nodup) : Mc w' m L N := by
  refine ⟨es, cl, _, hb, hM, fun z v => ?_⟩
  have hx : N x ∉ L.map N := fun hm => by
    rw [List.map_append, List.nodup_append] at hnd
    exact hnd.2.2 _ hm (N x) (by simp) rfl
  constructor
  · intro h
    by_cases e : z = N x
    · simp [delI, e] at h
    · simp only [delI, e, if_false] at h
      obtain ⟨y, hy, h1, h2⟩ := (hO z v).1 h
      rcases List.mem_append.1 hy with hy | hy
      · exact ⟨y, hy, h1, h2⟩
      · have : y = x := by simpa using hy
        subst this
        exact absurd h1.symm e
  · rintro ⟨y, hy, h1, h2⟩
    have e : z ≠ N x := fun e => hx (by rw [← e, ← h1]; exact List.mem_map_of_mem hy)
    simp only [delI, e, if_false]
    exact (hO z v).2 ⟨y, List.mem_append.2 (.inl hy), h1, h2⟩
set_option maxRecDepth 100000 in
set_option maxHeartbeats 800000 in
theorem dropLast_any {w : World} {q : Cq} {D : Dv} {Q : Nat → ByteArray} {M cm : Int} {L : List Nat} {x : Nat} {N : Nat → Int} {T : Nat → ByteArray} {h mi : Int} (H : Ca w q D Q M cm (L ++ [x]) N T h mi) :
    Calls Try.prog 36 #[.pointer (some ⟨q.c, 0, none⟩)] w fun e w' => e = .returned (.tuple #[]) ∧ Ca w' q D Q M cm L N T h mi ∧ Kp (q.foot (L ++ [x])) w w' := by
  obtain ⟨ah, be, hr⟩ := H.rg
  have c2 := H.cc.c2
  have hla := last_ring hr
  go_enter Try.func36, Try.ntmps36
  go_upto_region 1 with (first
    | (go_at_call 45; refine hla.mono ?_; rintro e w1 ⟨rfl, hk1⟩)
    | fail)
  have hr1 := hr.kept hk1 (fun _ _ h => h)
  have hle := leave_ring hr1
  go_upto_region 2 with (first
    | (go_at_call 30; refine hle.mono ?_; rintro e w3 ⟨rfl, ah3, be3, hr3, hx3, hk3, _⟩)
    | fail)
  rw [List.append_nil] at hr3 hk3
  have sub : ∀ k, k ∈ q.s :: L → k ∈ q.s :: (L ++ [x]) := fun k hk => by
    simp only [List.mem_cons, List.mem_append] at hk ⊢
    rcases hk with e | e
    · exact .inl e
    · exact .inr (.inl e)
  have K3 : Kp (fun k => k ∈ q.s :: L) w w3 := hk1.nThen hk3
  have C3 := H.cc.kept K3 (fun hm => H.s3.2 (sub _ hm))
  have m3 := H.mc.kept K3 (fun hm => H.s4 (sub _ hm))
  obtain ⟨es, cl, c, hm, hM, hO⟩ := m3
  have hmd : w3.drew.heap[q.m]? = some (.map es cl) := hm
  obtain ⟨n, HN⟩ : ∃ n, Hid (N x = n) := ⟨_, rfl⟩
  obtain ⟨es', cl', hdel, hM'⟩ := run_delI (t := 48) (e := 42) (ty := 0) Try.underlying48 hmd hM (N x)
  have d3 := C3.c3
  have d0 := hx3.c0
  rw [HN.out] at d0 hdel
  have hne : ∀ k, q.p.mem k ∨ k = q.g → ¬ (k = q.m ∨ k ∈ q.s :: L) := fun k hk e => by
    have := H.apart k hk
    rcases e with e | e
    · exact this.2.1 e
    · exact this.2.2 (sub _ e)
  have KS := Kp.setBlock (S := only q.m) w3.drew q.m (.map es' cl') rfl
  have K5 : Kp (fun k => k = q.m ∨ k ∈ q.s :: L) w (setBlock w3.drew q.m (.map es' cl')) := ((K3.then (Kp.drew _ _)).mono (fun k _ e => .inr e)).then (KS.mono (fun k _ e => .inl e))
  have hRP := H.rest K5 hne
  have C5 := H.cc.kept K5 (fun e => by
    rcases e with e | e
    · exact H.s3.1 e
    · exact H.s3.2 (sub _ e))
  have R5 := (hr3.kept (Kp.drew none' w3) (fun _ _ h => h)).kept KS (fun y hy e => H.s4 (by rw [show y = q.m from e] at hy; exact sub _ hy))
  have hb5 : (setBlock w3.drew q.m (.map es' cl')).heap[q.m]? = some (.map es' cl') := (MapKept.heap_set hmd).1
  have M5 := Mc.del hb5 hM' hO H.nd
  have hnd : (L.map N).Nodup := by
    have := H.nd
    rw [List.map_append, List.nodup_append] at this
    exact this.1
  have hfin : Ca (setBlock w3.drew q.m (.map es' cl')) q D Q M cm L N T h mi := ⟨hRP.1, H.st, hRP.2, C5, ⟨ah3, be3, R5⟩, M5, hnd, fun y hy => H.da y (List.mem_append.2 (.inl hy)),
    fun k hk => ⟨(H.s1 k hk).1, (H.s1 k hk).2.1, fun hm => (H.s1 k hk).2.2 (sub k hm)⟩, ⟨H.s2.1, H.s2.2.1, fun hm => H.s2.2.2 (sub _ hm)⟩, ⟨H.s3.1, fun hm => H.s3.2 (sub _ hm)⟩, fun hm => H.s4 (sub _ hm), H.n2, H.hQ, H.sm⟩
  have HF := hide hfin
  have HK := hide K5
  clear hfin K5 hRP C5 R5 hb5 M5
  go_region
  all_goals first | go_end0 | ((try simp only [Exit.inBlock, Exit.then]); refine bodyPost_ret (results_none rfl _ _ _) rfl ?_)
  all_goals exact ⟨rfl, HF.out, HK.out.mono (fun k _ e => by
    rcases e with e | e
    · exact .inr (.inr (.inr (.inl e)))
    · exact .inr (.inr (.inr (.inr (sub _ e)))))⟩
theorem run_lenI {w : World} {m : Nat} {es : Array MapEntry} {cl : Nat} {t e ty : TypeId} (ht : Try.prog.underlying t = some (.map 3 e)) (hm : w.heap[m]? = some (.map es cl)) : (Builtin.len_ #[t] ty #[.map (some m)]).run Try.prog w = .ok (.int .i64 (es.size : Int)) w := by
  have h1 : (#[t] : Array TypeId)[0]? = some t := rfl
  have h2 : (#[Value.map (some m)] : Array Value)[0]? = some (.map (some m)) := rfl
  simp only [Builtin.len_, h1, h2, Sem.run_bind, run_underlying ht, Result.andThen_ok, MapKept.run_getObj_map hm, Sem.run_pure]
  rfl
theorem Mc.put {w' : World} {m : Nat} {L : List Nat} {x : Nat} {N : Nat → Int} {n : Int} {es : Array MapEntry} {cl : Nat} {c : Int → Option Value} (hb : w'.heap[m]? = some (.map es cl)) (hM : Mi (putI c n (.pointer (some ⟨x, 0, none⟩))) es.toList cl) (hO : MapOf L N c) (hn : n ∉ L.map N) (hx : x ∉ L) : Mc w' m (x :: L) (updF' N x n) := by
  refine ⟨es, cl, _, hb, hM, fun z v => ?_⟩
  have hN : ∀ y ∈ L, updF' N x n y = N y := fun y hy => by unfold updF'; rw [if_neg (fun e => hx (by rw [← e]; exact hy))]
  have hNx : updF' N x n x = n := by simp [updF']
  constructor
  · intro h
    by_cases e : z = n
    · simp only [putI, e, if_true, Option.some.injEq] at h
      exact ⟨x, List.mem_cons_self, by rw [hNx, e], h.symm⟩
    · simp only [putI, e, if_false] at h
      obtain ⟨y, hy, h1, h2⟩ := (hO z v).1 h
      exact ⟨y, List.mem_cons_of_mem _ hy, by rw [hN y hy]; exact h1, h2⟩
  · rintro ⟨y, hy, h1, h2⟩
    rcases List.mem_cons.1 hy with rfl | hy
    · rw [hNx] at h1
      simp [putI, h1, h2]
    · rw [hN y hy] at h1
      have e : z ≠ n := fun e => hn (by rw [← e, ← h1]; exact List.mem_map_of_mem hy)
      simp only [putI, e, if_false]
      exact (hO z v).2 ⟨y, hy, h1, h2⟩
theorem map_upd {L : List Nat} {x : Nat} {N : Nat → Int} {n : Int} (hx : x ∉ L) : (x :: L).map (updF' N x n) = n :: L.map N := by
  rw [List.map_cons]
  congr 1
  · simp [updF']
  · apply List.map_congr_left
    intro y hy
    unfold updF'
    rw [if_neg (fun e => hx (by rw [← e]; exact hy))]
set_option maxRecDepth 100000 in
set_option maxHeartbeats 1600000 in
theorem miss_any {w : World} {q : Cq} {D : Dv} {Q : Nat → ByteArray} {M cm : Int} {L : List Nat} {N : Nat → Int} {T : Nat → ByteArray} {h mi : Int} (H : Ca w q D Q M cm L N T h mi) (hl : L.length ≤ q.sz) (k : Nat) (hk : k < q.n) (hn : (k : Int) ∉ L.map N) (h0 : 0 ≤ mi) (h1 : mi ≤ 1000000000) :
    Calls Try.prog 23 #[.pointer (some ⟨q.c, 0, none⟩), .agg #[.int .i64 (k : Int), .string (Q k)]] w fun e w' => e = .returned (.tuple #[]) ∧ ∃ L' N' T', Ca w' q D Q M cm L' N' T' h (mi + 1) ∧ L'.map N' = ((k : Int) :: L.map N).take q.sz ∧
      Kp (q.foot L) w w' ∧ ∀ j, q.foot L' j → q.foot L j ∨ w.heap.size ≤ j := by
  obtain ⟨X, HX⟩ : ∃ X, Hid (Q k = X) := ⟨_, rfl⟩
  rw [HX.out]
  have k1 := Kp.alloc none' w (.cells #[.int .i64 (k : Int), .string X] 47)
  have r0 := new_cell w #[.int .i64 (k : Int), .string X] 47 0 _ rfl
  have r1 := new_cell w #[.int .i64 (k : Int), .string X] 47 1 _ rfl
  obtain ⟨b, HB⟩ : ∃ b, Hid (w.heap.size = b) := ⟨_, rfl⟩
  obtain ⟨W1, H1⟩ : ∃ W1, Hid (w.alloc (.cells #[.int .i64 (k : Int), .string X] 47) = W1) := ⟨_, rfl⟩
  rw [H1.out] at k1 r0 r1
  rw [HB.out] at r0 r1
  have A1 := H.keptN k1
  have hbf : ∀ j, q.foot L j → j ≠ b := fun j hj e => by have := H.lt j hj; have := HB.out; omega
  have hw : wrap64 (mi + 1) = mi + 1 := by unfold wrap64; omega
  have c5 := A1.cc.c5
  have f5 := A1.cc.cf 5
  go_enter Try.func23, Try.ntmps23
  go_upto_region 1 with fail
  rw [H1.out, HB.out]
  have p5 := Put.set W1 q.c 5 (.int .i64 (mi + 1)) _ c5
  go_upto_region 2 with fail
  obtain ⟨W2, H2⟩ : ∃ W2, Hid (W1.setCell ⟨q.c, 5, none⟩ (.int .i64 (mi + 1)) = W2) := ⟨_, rfl⟩
  rw [H2.out] at p5 ⊢
  have C2 := A1.cc.put5 p5
  obtain ⟨ah, be, hr1⟩ := A1.rg
  have hr2 := hr1.kept p5.kp (fun y hy e => H.s3.2 (by rw [show y = q.c from e] at hy; exact hy))
  have M2 := A1.mc.kept p5.kp (fun e => H.s3.1 (Eq.symm e))
  have K2 : Kp (only q.c) w W2 := k1.nThen p5.kp
  have hrd := hr2.kept (Kp.drew none' W2) (fun _ _ h => h)
  have hpu := put_ring (k : Int) X hrd
  have hbc : q.c ≠ b := hbf _ (.inr (.inr (.inl rfl)))
  have hbs : b ∉ q.s :: L := fun hm => hbf b (.inr (.inr (.inr (.inr hm)))) rfl
  have hbm : q.m ≠ b := hbf _ (.inr (.inr (.inr (.inl rfl))))
  have t0 : W2.drew.cell? ⟨q.c, 3, none⟩ = some (.map (some q.m)) ∧ W2.drew.cell? ⟨q.c, 2, none⟩ = some (.pointer (some ⟨q.s, 0, none⟩)) ∧ W2.drew.cell? ⟨b, 0, none⟩ = some (.int .i64 (k : Int)) ∧ W2.drew.cell? ⟨b, 1, none⟩ = some (.string X) :=
    ⟨C2.c3, C2.c2, by show W2.cell? _ = _; rw [p5.old _ _ (.inl (Ne.symm hbc))]; exact r0, by show W2.cell? _ = _; rw [p5.old _ _ (.inl (Ne.symm hbc))]; exact r1⟩
  have hsb : W2.heap.size = W1.heap.size := p5.sz
  have hs1 : w.heap.size ≤ W2.heap.size := K2.size
  have HPM : Hid (∀ (w3 : World) (x : Nat), Kp (fun k => k ∈ q.s :: L) W2.drew w3 → ∃ es cl c es' cl', w3.heap[q.m]? = some (.map es cl) ∧ MapOf L N c ∧ (Instr.mapUpdate 48 (.map (some q.m)) (.int .i64 (k : Int)) (.pointer (some ⟨x, 0, none⟩))).run Try.prog w3 = .ok () (setBlock w3 q.m (.map es' cl')) ∧ Mi (putI c (k : Int) (.pointer (some ⟨x, 0, none⟩))) es'.toList cl') := fun w3 x hk3 => by
    obtain ⟨es, cl, c, hm, hM, hO⟩ := (M2.kept (Kp.drew none' W2) (fun h => h)).kept hk3 H.s4
    obtain ⟨es', cl', hput, hM'⟩ := run_putI (t := 48) (e := 42) Try.underlying48 hm hM (k : Int) (.pointer (some ⟨x, 0, none⟩))
    exact ⟨es, cl, c, es', cl', hm, hO, hput, hM'⟩
  have kS : ∀ (W : World) (o : Obj), (W.cell? ⟨q.c, 3, none⟩ = some (.map (some q.m)) ∧ W.cell? ⟨q.c, 2, none⟩ = some (.pointer (some ⟨q.s, 0, none⟩)) ∧ W.cell? ⟨b, 0, none⟩ = some (.int .i64 (k : Int)) ∧ W.cell? ⟨b, 1, none⟩ = some (.string X)) →
      ((setBlock W q.m o).cell? ⟨q.c, 3, none⟩ = some (.map (some q.m)) ∧ (setBlock W q.m o).cell? ⟨q.c, 2, none⟩ = some (.pointer (some ⟨q.s, 0, none⟩)) ∧ (setBlock W q.m o).cell? ⟨b, 0, none⟩ = some (.int .i64 (k : Int)) ∧ (setBlock W q.m o).cell? ⟨b, 1, none⟩ = some (.string X)) := fun W o h => by
    have ks := Kp.setBlock (S := only q.m) W q.m o rfl
    exact ⟨ks.cell h.1 H.s3.1, ks.cell h.2.1 H.s3.1, ks.cell h.2.2.1 (Ne.symm hbm), ks.cell h.2.2.2 (Ne.symm hbm)⟩
  clear M2
  go_region_held_law (fun W => W.cell? ⟨q.c, 3, none⟩ = some (.map (some q.m)) ∧ W.cell? ⟨q.c, 2, none⟩ = some (.pointer (some ⟨q.s, 0, none⟩)) ∧ W.cell? ⟨b, 0, none⟩ = some (.int .i64 (k : Int)) ∧ W.cell? ⟨b, 1, none⟩ = some (.string X)) (first | assumption | exact kS _ _ (by assumption)) (first
    | (go_at_call 35; refine hpu.mono ?_; rintro e w3 ⟨x, ah3, be3, rfl, hx3, hr3, hk3⟩; have T3 : w3.cell? ⟨q.c, 3, none⟩ = some (.map (some q.m)) ∧ w3.cell? ⟨q.c, 2, none⟩ = some (.pointer (some ⟨q.s, 0, none⟩)) ∧ w3.cell? ⟨b, 0, none⟩ = some (.int .i64 (k : Int)) ∧ w3.cell? ⟨b, 1, none⟩ = some (.string X) := ⟨hk3.cell t0.1 H.s3.2, hk3.cell t0.2.1 H.s3.2, hk3.cell t0.2.2.1 hbs, hk3.cell t0.2.2.2 hbs⟩; obtain ⟨es, cl, c, es', cl', hm3, hO3, hput, hM3⟩ := HPM.out w3 x hk3)
    | fail)
  have hx2 : w.heap.size ≤ x := Nat.le_trans hs1 hx3
  have hxf : ∀ j, q.foot L j → j ≠ x := fun j hj e => by have := H.lt j hj; omega
  have hxl : x ∉ q.s :: L := fun hm => hxf x (.inr (.inr (.inr (.inr hm)))) rfl
  have hxL : x ∉ L := fun hm => hxl (List.mem_cons_of_mem _ hm)
  have KS := Kp.setBlock (S := only q.m) w3 q.m (.map es' cl') rfl
  have K4 : Kp (fun j => j = q.c ∨ j = q.m ∨ j ∈ q.s :: L) w (setBlock w3 q.m (.map es' cl')) := ((K2.mono (fun j _ e => .inl e)).then ((Kp.drew none' W2).nThen hk3 |>.mono (fun j _ e => .inr (.inr e)))).then (KS.mono (fun j _ e => .inr (.inl e)))
  have hne : ∀ j, q.p.mem j ∨ j = q.g → ¬ (j = q.c ∨ j = q.m ∨ j ∈ q.s :: L) := fun j hj e => by
    have := H.apart j hj
    rcases e with e | e | e
    · exact this.1 e
    · exact this.2.1 e
    · exact this.2.2 e
  have hRP := H.rest K4 hne
  have C4 := ((C2.kept (Kp.drew none' W2) (fun h => h)).kept hk3 H.s3.2).kept KS H.s3.1
  have hxm : q.m ∉ q.s :: x :: L := fun hm => by
    simp only [List.mem_cons] at hm
    rcases hm with e | e | e
    · exact H.s4 (by rw [e]; exact List.mem_cons_self)
    · exact hxf _ (.inr (.inr (.inr (.inl rfl)))) e
    · exact H.s4 (List.mem_cons_of_mem _ e)
  have more : ∀ j, q.foot L j → j ∈ q.s :: x :: L → j ∈ q.s :: L := fun j hj hm => by
    simp only [List.mem_cons] at hm ⊢
    rcases hm with e | e | e
    · exact .inl e
    · exact absurd e (hxf j hj)
    · exact .inr e
  have R4 := hr3.kept KS (fun y hy e => hxm (by rw [show y = q.m from e] at hy; exact hy))
  have hb4 : (setBlock w3 q.m (.map es' cl')).heap[q.m]? = some (.map es' cl') := (MapKept.heap_set hm3).1
  have M4 := Mc.put hb4 hM3 hO3 hn hxL
  have hmp := map_upd (N := N) (n := (k : Int)) hxL
  have A4 : Ca (setBlock w3 q.m (.map es' cl')) q D Q M cm (x :: L) (updF' N x (k : Int)) (updF' T x X) h (mi + 1) := by
    refine ⟨hRP.1, H.st, hRP.2, C4, ⟨ah3, be3, R4⟩, M4, by rw [hmp]; exact List.nodup_cons.2 ⟨hn, H.nd⟩, fun y hy => ?_, fun j hj => ⟨(H.s1 j hj).1, (H.s1 j hj).2.1, fun hm => (H.s1 j hj).2.2 (more j (.inl hj) hm)⟩,
      ⟨H.s2.1, H.s2.2.1, fun hm => H.s2.2.2 (more _ (.inr (.inl rfl)) hm)⟩, ⟨H.s3.1, fun hm => H.s3.2 (more _ (.inr (.inr (.inl rfl))) hm)⟩, hxm, H.n2, H.hQ, H.sm⟩
    by_cases e : y = x
    · subst e
      exact ⟨k, hk, by simp [updF'], by simp [updF', HX.out]⟩
    · rcases List.mem_cons.1 hy with e' | hy'
      · exact absurd e' e
      · obtain ⟨k', a1, a2, a3⟩ := H.da y hy'
        exact ⟨k', a1, by simp [updF', e, a2], by simp [updF', e, a3]⟩
  have hlen : es'.size = L.length + 1 := by
    obtain ⟨es2, cl2, c2, q1, q2, q3⟩ := A4.mc
    rw [hb4] at q1
    cases q1
    have := q3.size q2 A4.nd
    simpa using this
  have hfoot : ∀ j, q.foot (x :: L) j → q.foot L j ∨ w.heap.size ≤ j := fun j hj => by
    rcases hj with e | e | e | e | e
    · exact .inl (.inl e)
    · exact .inl (.inr (.inl e))
    · exact .inl (.inr (.inr (.inl e)))
    · exact .inl (.inr (.inr (.inr (.inl e))))
    · simp only [List.mem_cons] at e
      rcases e with e | e | e
      · exact .inl (.inr (.inr (.inr (.inr (by rw [e]; exact List.mem_cons_self)))))
      · exact .inr (by rw [e]; exact hx2)
      · exact .inl (.inr (.inr (.inr (.inr (List.mem_cons_of_mem _ e)))))
  have HFT := hide hfoot
  have HK4 := hide K4
  have HMP := hide hmp
  have hru := run_lenI (w := (setBlock w3 q.m (.map es' cl')).drew) (ty := 3) Try.underlying48 (m := q.m) hb4
  rw [hlen] at hru
  obtain ⟨W4, H4⟩ : ∃ W4, Hid (setBlock w3 q.m (.map es' cl') = W4) := ⟨_, rfl⟩
  rw [H4.out] at A4 hru HK4 ⊢
  have A5 := A4.keptN (Kp.drew none' W4)
  have e1 := A4.cc.c1
  have e3 := A4.cc.c3
  clear hfoot K4 hmp KS R4 hb4 M4 hRP C4 hM3 hO3 hput kS HPM hlen hpu t0 T3
  have HK5 : Hid (Kp (q.foot L) w W4.drew) := (HK4.out.mono (fun j _ e => by
    rcases e with e | e | e
    · exact .inr (.inr (.inl e))
    · exact .inr (.inr (.inr (.inl e)))
    · exact .inr (.inr (.inr (.inr e))))).thenN (Kp.drew _ _)
  go_wp2
  by_cases hsz : q.sz < L.length + 1
  · have hsi : (q.sz : Int) < ((L.length + 1 : Nat) : Int) := by omega
    obtain ⟨L2, y, hL2⟩ : ∃ L2 y, x :: L = L2 ++ [y] := ⟨(x :: L).dropLast, (x :: L).getLast (by simp), (List.dropLast_concat_getLast (by simp)).symm⟩
    have HL2 := hide hL2
    have A6 := A5
    rw [hL2] at A6
    have hdr := dropLast_any A6
    clear hL2 A6
    go_region
    all_goals go_wp2_with (first
      | (go_at_call 36; refine hdr.mono ?_; rintro e w7 ⟨rfl, A7, hk7⟩)
      | fail)
    all_goals first | go_end0 | ((try simp only [Exit.inBlock, Exit.then]); refine bodyPost_ret (results_none rfl _ _ _) rfl ?_)
    all_goals (
      have hmem : ∀ z, z ∈ L2 → z ∈ x :: L := fun z hz => by rw [HL2.out]; exact List.mem_append.2 (.inl hz)
      have hl2 : L2.length = q.sz := by
        have := congrArg List.length HL2.out
        simp at this
        omega
      refine ⟨rfl, L2, _, _, A7, ?_, HK5.out.trans hk7 (fun _ _ e => e) (fun j hj e => ?_), fun j hj => HFT.out j ?_⟩
      · rw [← HMP.out, HL2.out, List.map_append, List.take_append_of_le_length (by rw [List.length_map]; omega), List.take_of_length_le (by rw [List.length_map]; omega)]
      · rw [← HL2.out] at e
        rcases HFT.out j e with e | e
        · exact e
        · omega
      · rcases hj with e | e | e | e | e
        · exact .inl e
        · exact .inr (.inl e)
        · exact .inr (.inr (.inl e))
        · exact .inr (.inr (.inr (.inl e)))
        · refine .inr (.inr (.inr (.inr ?_)))
          rcases List.mem_cons.1 e with e | e
          · rw [e]; exact List.mem_cons_self
          · exact List.mem_cons_of_mem _ (hmem j e))
  · have hsi : ¬ (q.sz : Int) < ((L.length + 1 : Nat) : Int) := by omega
    go_region
    all_goals go_wp2
    all_goals first | go_end0 | ((try simp only [Exit.inBlock, Exit.then]); refine bodyPost_ret (results_none rfl _ _ _) rfl ?_)
    all_goals (
      have e4 : (x :: L).map (updF' N x (k : Int)) = ((k : Int) :: L.map N).take q.sz := by rw [HMP.out, List.take_of_length_le (by rw [List.length_cons, List.length_map]; omega)]
      first
        | exact ⟨rfl, x :: L, _, _, A5, e4, HK5.out, HFT.out⟩
        | exact ⟨rfl, x :: L, _, ⟨_, A5⟩, e4, HK5.out, HFT.out⟩)

end Go.Proofs.Ytcfhgfelmofgjaa
