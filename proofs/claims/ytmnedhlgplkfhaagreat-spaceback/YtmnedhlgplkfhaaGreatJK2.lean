/- Contracts, over the turned program: a cache's parts. Conditions: those that each theorem states. Contracts, over the turned program: a page kept no more, a page kept. Conditions: those that each theorem states. Contracts, over the turned program: a cache's Read. Conditions: those that each theorem states. Contracts, over the turned program: a cache's Kept, Hits, Misses, Pages. Conditions: those that each theorem states. Contracts, over the turned program: a cache that is new; the laws' opened. Conditions: those that each theorem states. -/
import Derived.Test.YtmnedhlgplkfhaaGreatJK1
import Derived.BigQuiet
import Derived.Deep.RegionLaw
import Derived.Test.YtmnedhlgplkfhaaGreatJP3
import Derived.Test.YtmnedhlgplkfhaaGreatJU
namespace Go.Proofs.YtmnedhlgplkfhaaGreat
open Go.RowKit
open Go.ChangeMaps (setBlock)
set_option linter.unusedVariables false

set_option maxRecDepth 100000 in
set_option maxHeartbeats 400000 in
theorem copen_nil (w : World) : Calls Tryz.prog 47 #[.pointer none] w fun e w' => e = .returned (.bool false) ∧ w' = w := by
  go_enter Tryz.func47, Tryz.ntmps47
  go_wp2
  go_ret
  exact ⟨rfl, rfl⟩
set_option maxRecDepth 100000 in
set_option maxHeartbeats 400000 in
theorem copen_any (c g : Nat) (w : World) (h0 : w.cell? ⟨c, 0, none⟩ = some (.pointer (some ⟨g, 0, none⟩))) : Calls Tryz.prog 47 #[.pointer (some ⟨c, 0, none⟩)] w fun e w' => e = .returned (.bool true) ∧ w' = w := by
  go_enter Tryz.func47, Tryz.ntmps47
  go_wp2
  go_ret
  exact ⟨rfl, rfl⟩
set_option maxRecDepth 100000 in
set_option maxHeartbeats 400000 in
theorem catchUp_any (c g : Nat) (cm : Int) (w : World) (h0 : w.cell? ⟨c, 0, none⟩ = some (.pointer (some ⟨g, 0, none⟩))) (h6 : w.cell? ⟨c, 6, none⟩ = some (.int .i64 cm)) (hg : w.cell? ⟨g, 2, none⟩ = some (.int .i64 cm)) :
    Calls Tryz.prog 65 #[.pointer (some ⟨c, 0, none⟩)] w fun e w' => e = .returned (.tuple #[]) ∧ Kp none' w w' := by
  have hk := Kp.alloc none' w (.cells #[.pointer (some ⟨c, 0, none⟩)] 32)
  have r1 := new_cell w #[.pointer (some ⟨c, 0, none⟩)] 32 0 _ rfl
  obtain ⟨b, HB⟩ : ∃ b, Hid (w.heap.size = b) := ⟨_, rfl⟩
  rw [HB.out] at r1
  go_enter Tryz.func65, Tryz.ntmps65
  go_upto_region 1 with fail
  rw [HB.out]
  obtain ⟨W1, H1⟩ : ∃ W1, Hid (w.alloc (.cells #[.pointer (some ⟨c, 0, none⟩)] 32) = W1) := ⟨_, rfl⟩
  rw [H1.out] at hk r1 ⊢
  have q0 := hk.cell h0 (fun h => h)
  have q6 := hk.cell h6 (fun h => h)
  have qg := hk.cell hg (fun h => h)
  have hcc : (cm == cm) = true := by simp
  have qgd : W1.drew.cell? ⟨g, 2, none⟩ = some (.int .i64 cm) := qg
  have t3 : W1.drew.cell? ⟨b, 0, none⟩ = some (.pointer (some ⟨c, 0, none⟩)) ∧ W1.drew.cell? ⟨c, 0, none⟩ = some (.pointer (some ⟨g, 0, none⟩)) ∧ W1.drew.cell? ⟨c, 6, none⟩ = some (.int .i64 cm) := ⟨r1, q0, q6⟩
  go_region_held_law (fun W => W.cell? ⟨b, 0, none⟩ = some (.pointer (some ⟨c, 0, none⟩)) ∧ W.cell? ⟨c, 0, none⟩ = some (.pointer (some ⟨g, 0, none⟩)) ∧ W.cell? ⟨c, 6, none⟩ = some (.int .i64 cm)) (first | assumption) (first
    | (go_at_call 76; refine (pcommits_any g cm _ qgd).mono ?_; rintro e w' ⟨rfl, rfl⟩)
    | fail)
  go_wp2
  first | go_end0 | ((try simp only [Exit.inBlock, Exit.then]); refine bodyPost_ret (results_none rfl _ _ _) rfl ?_)
  exact ⟨rfl, hk.then (Kp.drew _ _)⟩
/-- A cache while its ring is not yet whole: all but its ring and its map. -/
theorem Ca.rest {w w' : World} {q : Cq} {D : Dv} {Q : Nat → ByteArray} {M cm : Int} {L : List Nat} {N : Nat → Int} {T : Nat → ByteArray} {h mi : Int} {S : Nat → Prop} (H : Ca w q D Q M cm L N T h mi) (hk : Kp S w w') (hS : ∀ k, q.p.mem k ∨ k = q.g → ¬ S k) :
    Rest w' q.p D q.n Q M ∧ Pag w' q.g q.p q.n cm (.slice none 0 0) [] :=
  ⟨H.hR.kept hk (fun k hm => hS k (.inl hm)), ⟨hk.cell H.hP.c0 (hS _ (.inr rfl)), hk.cell H.hP.c1 (hS _ (.inr rfl)), hk.cell H.hP.c2 (hS _ (.inr rfl)), hk.cell H.hP.c3 (hS _ (.inr rfl)), fun j => by rw [hk.frozen H.hP.lt (hS _ (.inr rfl))]; exact H.hP.fr j, Chs.nil _ _, H.hP.gp⟩⟩
/-- The links and the cache's own block lie apart from the pager. -/
theorem Ca.apart {w : World} {q : Cq} {D : Dv} {Q : Nat → ByteArray} {M cm : Int} {L : List Nat} {N : Nat → Int} {T : Nat → ByteArray} {h mi : Int} (H : Ca w q D Q M cm L N T h mi) (k : Nat) (hk : q.p.mem k ∨ k = q.g) : k ≠ q.c ∧ k ≠ q.m ∧ k ∉ q.s :: L := by
  rcases hk with e | e
  · exact H.s1 k e
  · rw [e]; exact H.s2
set_option maxRecDepth 100000 in
set_option maxHeartbeats 800000 in
theorem hit_any {w : World} {q : Cq} {D : Dv} {Q : Nat → ByteArray} {M cm : Int} {p r : List Nat} {x : Nat} {N : Nat → Int} {T : Nat → ByteArray} {h mi : Int} (H : Ca w q D Q M cm (p ++ x :: r) N T h mi) (h0 : 0 ≤ h) (h1 : h ≤ 1000000000) :
    Calls Tryz.prog 48 #[.pointer (some ⟨q.c, 0, none⟩), .pointer (some ⟨x, 0, none⟩)] w fun e w' => e = .returned (.string (T x)) ∧ Ca w' q D Q M cm (x :: (p ++ r)) N T (h + 1) mi ∧ Kp (q.foot (p ++ x :: r)) w w' := by
  obtain ⟨ah, be, hr⟩ := H.rg
  have hcu := catchUp_any q.c q.g cm w H.cc.c0 H.cc.c6 H.hP.c2
  have hc : q.c ∉ q.s :: (p ++ x :: r) := H.s3.2
  have hw : wrap64 (h + 1) = h + 1 := by unfold wrap64; omega
  go_enter Tryz.func48, Tryz.ntmps48
  go_upto_region 2 with (first
    | (go_at_call 65; refine hcu.mono ?_; rintro e w1 ⟨rfl, hk1⟩)
    | fail)
  have C1 := H.cc.kept hk1 (fun h => h)
  have c4 := C1.c4
  have f4 := C1.cf 4
  have p4 := Put.set w1 q.c 4 (.int .i64 (h + 1)) _ c4
  have C2 := C1.put4 p4
  have hk2 : Kp (only q.c) w (w1.setCell ⟨q.c, 4, none⟩ (.int .i64 (h + 1))) := hk1.nThen p4.kp
  have hr2 := hr.kept hk2 (fun y hy e => hc (by rw [show y = q.c from e] at hy; exact hy))
  obtain ⟨W2, HW2⟩ : ∃ W2, Hid (w1.setCell ⟨q.c, 4, none⟩ (.int .i64 (h + 1)) = W2) := ⟨_, rfl⟩
  rw [HW2.out] at C2 hk2 hr2
  have hle := leave_ring hr2
  go_upto_region 4 with (first
    | (rw [HW2.out]; go_at_call 66; refine hle.mono ?_; rintro e w3 ⟨rfl, ah3, be3, hr3, hx3, hk3, _⟩)
    | fail)
  have sub3 : ∀ k, k ∈ q.s :: (p ++ r) → k ∈ q.s :: (p ++ x :: r) := fun k hk => by
    simp only [List.mem_cons, List.mem_append] at hk ⊢
    rcases hk with e | e | e
    · exact .inl e
    · exact .inr (.inl e)
    · exact .inr (.inr (.inr e))
  have hnx : x ∉ q.s :: (p ++ r) := by
    intro hz
    have hn := hr.nd
    simp only [List.nodup_cons, List.nodup_append, List.mem_append, List.mem_cons] at hn hz
    rcases hz with e | e | e
    · exact hn.1 (.inr (.inl e.symm))
    · exact hn.2.2.2 x e x (.inl rfl) rfl
    · exact hn.2.2.1.1 e
  have C3 := C2.kept hk3 (fun hm => hc (sub3 _ hm))
  have hjo := join_ring hr3 hx3 hnx
  have d2 := C3.c2
  go_upto_region 5 with (first
    | (go_at_call 67; refine hjo.mono ?_; rintro e w5 ⟨rfl, ah5, be5, hr5, hk5⟩)
    | fail)
  have sub5 : ∀ k, k ∈ q.s :: x :: (p ++ r) → k ∈ q.s :: (p ++ x :: r) := fun k hk => by
    simp only [List.mem_cons, List.mem_append] at hk ⊢
    rcases hk with e | e | e | e
    · exact .inl e
    · exact .inr (.inr (.inl e))
    · exact .inr (.inl e)
    · exact .inr (.inr (.inr e))
  have sub6 : ∀ k, k ∈ q.s :: (p ++ x :: r) → k ∈ q.s :: x :: (p ++ r) := fun k hk => by
    simp only [List.mem_cons, List.mem_append] at hk ⊢
    rcases hk with e | e | e | e
    · exact .inl e
    · exact .inr (.inr (.inl e))
    · exact .inr (.inl e)
    · exact .inr (.inr (.inr e))
  have C5 := C3.kept hk5 (fun hm => hc (sub5 _ hm))
  have d1 := (hr5.rm x (by simp)).c1
  have K5 : Kp (fun k => k = q.c ∨ k ∈ q.s :: (p ++ x :: r)) w w5 := ((hk2.mono (fun k _ e => .inl e)).then (hk3.mono (fun k _ e => .inr (sub3 k e)))).then (hk5.mono (fun k _ e => .inr (sub5 k e)))
  have hne : ∀ k, q.p.mem k ∨ k = q.g → ¬ (k = q.c ∨ k ∈ q.s :: (p ++ x :: r)) := fun k hk e => by
    have := H.apart k hk
    rcases e with e | e
    · exact this.1 e
    · exact this.2.2 e
  have hRP := H.rest K5 hne
  have hm5 : Mc w5 q.m (p ++ x :: r) N := H.mc.kept K5 (fun e => by
    rcases e with e | e
    · exact H.s3.1 e.symm
    · exact H.s4 e)
  have hperm : ∀ y, y ∈ x :: (p ++ r) ↔ y ∈ p ++ x :: r := fun y => by simp only [List.mem_cons, List.mem_append]; exact ⟨fun h => by rcases h with h | h | h; exact .inr (.inl h); exact .inl h; exact .inr (.inr h), fun h => by rcases h with h | h | h; exact .inr (.inl h); exact .inl h; exact .inr (.inr h)⟩
  have hnd : ((x :: (p ++ r)).map N).Nodup := by
    have := H.nd
    rw [List.map_append, List.map_cons] at this
    rw [List.map_cons, List.map_append]
    exact (List.perm_middle.nodup_iff).1 this
  have hfin : Ca w5 q D Q M cm (x :: (p ++ r)) N T (h + 1) mi := ⟨hRP.1, H.st, hRP.2, C5, ⟨ah5, be5, hr5⟩, hm5.perm hperm, hnd, fun y hy => H.da y ((hperm y).1 hy),
    fun k hk => ⟨(H.s1 k hk).1, (H.s1 k hk).2.1, fun hm => (H.s1 k hk).2.2 (sub5 k hm)⟩, ⟨H.s2.1, H.s2.2.1, fun hm => H.s2.2.2 (sub5 _ hm)⟩, ⟨H.s3.1, fun hm => H.s3.2 (sub5 _ hm)⟩, fun hm => H.s4 (sub5 _ hm), H.n2, H.hQ, H.sm⟩
  have HF := hide hfin
  have HK := hide K5
  clear hfin K5
  go_wp2
  go_ret
  exact ⟨rfl, HF.out, HK.out.mono (fun k _ e => by
    rcases e with e | e
    · exact .inr (.inr (.inl e))
    · exact .inr (.inr (.inr (.inr e))))⟩

end Go.Proofs.YtmnedhlgplkfhaaGreat

namespace Go.Proofs.YtmnedhlgplkfhaaGreat
open Go.RowKit
open Go.ChangeMaps (setBlock)
set_option linter.unusedVariables false

theorem Mc.del {w' : World} {m : Nat} {L : List Nat} {x : Nat} {N : Nat → Int} {es : Array MapEntry} {cl : Nat} {c : Int → Option Value} (hb : w'.heap[m]? = some (.map es cl)) (hM : Mi (delI c (N x)) es.toList cl) (hO : MapOf (L ++ [x]) N c) (hnd : ((L ++ [x]).map N).Nodup) : Mc w' m L N := by
  refine ⟨es, cl, _, hb, hM, fun z v => ?_⟩
  have hx : N x ∉ L.map N := fun hm => by
    rw [List.map_append, List.nodup_append] at hnd
    exact hnd.2.2 _ hm (N x) (by simp) rfl
  constructor
  · intro h
    by_cases e : z = N x
    · simp [delI, e] at h
    · simp only [delI, e, if_false] at h
      obtain ⟨y, hy, h1, h2⟩ := (hO z v).1 h
      rcases List.mem_append.1 hy with hy | hy
      · exact ⟨y, hy, h1, h2⟩
      · have : y = x := by simpa using hy
        subst this
        exact absurd h1.symm e
  · rintro ⟨y, hy, h1, h2⟩
    have e : z ≠ N x := fun e => hx (by rw [← e, ← h1]; exact List.mem_map_of_mem hy)
    simp only [delI, e, if_false]
    exact (hO z v).2 ⟨y, List.mem_append.2 (.inl hy), h1, h2⟩
set_option maxRecDepth 100000 in
set_option maxHeartbeats 800000 in
theorem dropLast_any {w : World} {q : Cq} {D : Dv} {Q : Nat → ByteArray} {M cm : Int} {L : List Nat} {x : Nat} {N : Nat → Int} {T : Nat → ByteArray} {h mi : Int} (H : Ca w q D Q M cm (L ++ [x]) N T h mi) :
    Calls Tryz.prog 72 #[.pointer (some ⟨q.c, 0, none⟩)] w fun e w' => e = .returned (.tuple #[]) ∧ Ca w' q D Q M cm L N T h mi ∧ Kp (q.foot (L ++ [x])) w w' := by
  obtain ⟨ah, be, hr⟩ := H.rg
  have c2 := H.cc.c2
  have hla := last_ring hr
  go_enter Tryz.func72, Tryz.ntmps72
  go_upto_region 1 with (first
    | (go_at_call 84; refine hla.mono ?_; rintro e w1 ⟨rfl, hk1⟩)
    | fail)
  have hr1 := hr.kept hk1 (fun _ _ h => h)
  have hle := leave_ring hr1
  go_upto_region 2 with (first
    | (go_at_call 66; refine hle.mono ?_; rintro e w3 ⟨rfl, ah3, be3, hr3, hx3, hk3, _⟩)
    | fail)
  rw [List.append_nil] at hr3 hk3
  have sub : ∀ k, k ∈ q.s :: L → k ∈ q.s :: (L ++ [x]) := fun k hk => by
    simp only [List.mem_cons, List.mem_append] at hk ⊢
    rcases hk with e | e
    · exact .inl e
    · exact .inr (.inl e)
  have K3 : Kp (fun k => k ∈ q.s :: L) w w3 := hk1.nThen hk3
  have C3 := H.cc.kept K3 (fun hm => H.s3.2 (sub _ hm))
  have m3 := H.mc.kept K3 (fun hm => H.s4 (sub _ hm))
  obtain ⟨es, cl, c, hm, hM, hO⟩ := m3
  have hmd : w3.drew.heap[q.m]? = some (.map es cl) := hm
  obtain ⟨n, HN⟩ : ∃ n, Hid (N x = n) := ⟨_, rfl⟩
  obtain ⟨es', cl', hdel, hM'⟩ := run_delI (t := 82) (e := 77) (ty := 0) Tryz.underlying82 hmd hM (N x)
  have d3 := C3.c3
  have d0 := hx3.c0
  rw [HN.out] at d0 hdel
  have hne : ∀ k, q.p.mem k ∨ k = q.g → ¬ (k = q.m ∨ k ∈ q.s :: L) := fun k hk e => by
    have := H.apart k hk
    rcases e with e | e
    · exact this.2.1 e
    · exact this.2.2 (sub _ e)
  have KS := Kp.setBlock (S := only q.m) w3.drew q.m (.map es' cl') rfl
  have K5 : Kp (fun k => k = q.m ∨ k ∈ q.s :: L) w (setBlock w3.drew q.m (.map es' cl')) := ((K3.then (Kp.drew _ _)).mono (fun k _ e => .inr e)).then (KS.mono (fun k _ e => .inl e))
  have hRP := H.rest K5 hne
  have C5 := H.cc.kept K5 (fun e => by
    rcases e with e | e
    · exact H.s3.1 e
    · exact H.s3.2 (sub _ e))
  have R5 := (hr3.kept (Kp.drew none' w3) (fun _ _ h => h)).kept KS (fun y hy e => H.s4 (by rw [show y = q.m from e] at hy; exact sub _ hy))
  have hb5 : (setBlock w3.drew q.m (.map es' cl')).heap[q.m]? = some (.map es' cl') := (MapKept.heap_set hmd).1
  have M5 := Mc.del hb5 hM' hO H.nd
  have hnd : (L.map N).Nodup := by
    have := H.nd
    rw [List.map_append, List.nodup_append] at this
    exact this.1
  have hfin : Ca (setBlock w3.drew q.m (.map es' cl')) q D Q M cm L N T h mi := ⟨hRP.1, H.st, hRP.2, C5, ⟨ah3, be3, R5⟩, M5, hnd, fun y hy => H.da y (List.mem_append.2 (.inl hy)),
    fun k hk => ⟨(H.s1 k hk).1, (H.s1 k hk).2.1, fun hm => (H.s1 k hk).2.2 (sub k hm)⟩, ⟨H.s2.1, H.s2.2.1, fun hm => H.s2.2.2 (sub _ hm)⟩, ⟨H.s3.1, fun hm => H.s3.2 (sub _ hm)⟩, fun hm => H.s4 (sub _ hm), H.n2, H.hQ, H.sm⟩
  have HF := hide hfin
  have HK := hide K5
  clear hfin K5 hRP C5 R5 hb5 M5
  go_region
  all_goals first | go_end0 | ((try simp only [Exit.inBlock, Exit.then]); refine bodyPost_ret (results_none rfl _ _ _) rfl ?_)
  all_goals exact ⟨rfl, HF.out, HK.out.mono (fun k _ e => by
    rcases e with e | e
    · exact .inr (.inr (.inr (.inl e)))
    · exact .inr (.inr (.inr (.inr (sub _ e)))))⟩
theorem run_lenI {w : World} {m : Nat} {es : Array MapEntry} {cl : Nat} {t e ty : TypeId} (ht : Tryz.prog.underlying t = some (.map 3 e)) (hm : w.heap[m]? = some (.map es cl)) : (Builtin.len_ #[t] ty #[.map (some m)]).run Tryz.prog w = .ok (.int .i64 (es.size : Int)) w := by
  have h1 : (#[t] : Array TypeId)[0]? = some t := rfl
  have h2 : (#[Value.map (some m)] : Array Value)[0]? = some (.map (some m)) := rfl
  simp only [Builtin.len_, h1, h2, Sem.run_bind, run_underlying ht, Result.andThen_ok, MapKept.run_getObj_map hm, Sem.run_pure]
  rfl
theorem Mc.put {w' : World} {m : Nat} {L : List Nat} {x : Nat} {N : Nat → Int} {n : Int} {es : Array MapEntry} {cl : Nat} {c : Int → Option Value} (hb : w'.heap[m]? = some (.map es cl)) (hM : Mi (putI c n (.pointer (some ⟨x, 0, none⟩))) es.toList cl) (hO : MapOf L N c) (hn : n ∉ L.map N) (hx : x ∉ L) : Mc w' m (x :: L) (updF' N x n) := by
  refine ⟨es, cl, _, hb, hM, fun z v => ?_⟩
  have hN : ∀ y ∈ L, updF' N x n y = N y := fun y hy => by unfold updF'; rw [if_neg (fun e => hx (by rw [← e]; exact hy))]
  have hNx : updF' N x n x = n := by simp [updF']
  constructor
  · intro h
    by_cases e : z = n
    · simp only [putI, e, if_true, Option.some.injEq] at h
      exact ⟨x, List.mem_cons_self, by rw [hNx, e], h.symm⟩
    · simp only [putI, e, if_false] at h
      obtain ⟨y, hy, h1, h2⟩ := (hO z v).1 h
      exact ⟨y, List.mem_cons_of_mem _ hy, by rw [hN y hy]; exact h1, h2⟩
  · rintro ⟨y, hy, h1, h2⟩
    rcases List.mem_cons.1 hy with rfl | hy
    · rw [hNx] at h1
      simp [putI, h1, h2]
    · rw [hN y hy] at h1
      have e : z ≠ n := fun e => hn (by rw [← e, ← h1]; exact List.mem_map_of_mem hy)
      simp only [putI, e, if_false]
      exact (hO z v).2 ⟨y, hy, h1, h2⟩
theorem map_upd {L : List Nat} {x : Nat} {N : Nat → Int} {n : Int} (hx : x ∉ L) : (x :: L).map (updF' N x n) = n :: L.map N := by
  rw [List.map_cons]
  congr 1
  · simp [updF']
  · apply List.map_congr_left
    intro y hy
    unfold updF'
    rw [if_neg (fun e => hx (by rw [← e]; exact hy))]
set_option maxRecDepth 100000 in
set_option maxHeartbeats 1600000 in
theorem miss_any {w : World} {q : Cq} {D : Dv} {Q : Nat → ByteArray} {M cm : Int} {L : List Nat} {N : Nat → Int} {T : Nat → ByteArray} {h mi : Int} (H : Ca w q D Q M cm L N T h mi) (hl : L.length ≤ q.sz) (k : Nat) (hk : k < q.n) (hn : (k : Int) ∉ L.map N) (h0 : 0 ≤ mi) (h1 : mi ≤ 1000000000) :
    Calls Tryz.prog 50 #[.pointer (some ⟨q.c, 0, none⟩), .agg #[.int .i64 (k : Int), .string (Q k)]] w fun e w' => e = .returned (.tuple #[]) ∧ ∃ L' N' T', Ca w' q D Q M cm L' N' T' h (mi + 1) ∧ L'.map N' = ((k : Int) :: L.map N).take q.sz ∧
      Kp (q.foot L) w w' ∧ ∀ j, q.foot L' j → q.foot L j ∨ w.heap.size ≤ j := by
  obtain ⟨X, HX⟩ : ∃ X, Hid (Q k = X) := ⟨_, rfl⟩
  rw [HX.out]
  have k1 := Kp.alloc none' w (.cells #[.int .i64 (k : Int), .string X] 88)
  have r0 := new_cell w #[.int .i64 (k : Int), .string X] 88 0 _ rfl
  have r1 := new_cell w #[.int .i64 (k : Int), .string X] 88 1 _ rfl
  obtain ⟨b, HB⟩ : ∃ b, Hid (w.heap.size = b) := ⟨_, rfl⟩
  obtain ⟨W1, H1⟩ : ∃ W1, Hid (w.alloc (.cells #[.int .i64 (k : Int), .string X] 88) = W1) := ⟨_, rfl⟩
  rw [H1.out] at k1 r0 r1
  rw [HB.out] at r0 r1
  have A1 := H.keptN k1
  have hbf : ∀ j, q.foot L j → j ≠ b := fun j hj e => by have := H.lt j hj; have := HB.out; omega
  have hw : wrap64 (mi + 1) = mi + 1 := by unfold wrap64; omega
  have c5 := A1.cc.c5
  have f5 := A1.cc.cf 5
  go_enter Tryz.func50, Tryz.ntmps50
  go_upto_region 1 with fail
  rw [H1.out, HB.out]
  have p5 := Put.set W1 q.c 5 (.int .i64 (mi + 1)) _ c5
  go_upto_region 2 with fail
  obtain ⟨W2, H2⟩ : ∃ W2, Hid (W1.setCell ⟨q.c, 5, none⟩ (.int .i64 (mi + 1)) = W2) := ⟨_, rfl⟩
  rw [H2.out] at p5 ⊢
  have C2 := A1.cc.put5 p5
  obtain ⟨ah, be, hr1⟩ := A1.rg
  have hr2 := hr1.kept p5.kp (fun y hy e => H.s3.2 (by rw [show y = q.c from e] at hy; exact hy))
  have M2 := A1.mc.kept p5.kp (fun e => H.s3.1 (Eq.symm e))
  have K2 : Kp (only q.c) w W2 := k1.nThen p5.kp
  have hrd := hr2.kept (Kp.drew none' W2) (fun _ _ h => h)
  have hpu := put_ring (k : Int) X hrd
  have hbc : q.c ≠ b := hbf _ (.inr (.inr (.inl rfl)))
  have hbs : b ∉ q.s :: L := fun hm => hbf b (.inr (.inr (.inr (.inr hm)))) rfl
  have hbm : q.m ≠ b := hbf _ (.inr (.inr (.inr (.inl rfl))))
  have t0 : W2.drew.cell? ⟨q.c, 3, none⟩ = some (.map (some q.m)) ∧ W2.drew.cell? ⟨q.c, 2, none⟩ = some (.pointer (some ⟨q.s, 0, none⟩)) ∧ W2.drew.cell? ⟨b, 0, none⟩ = some (.int .i64 (k : Int)) ∧ W2.drew.cell? ⟨b, 1, none⟩ = some (.string X) :=
    ⟨C2.c3, C2.c2, by show W2.cell? _ = _; rw [p5.old _ _ (.inl (Ne.symm hbc))]; exact r0, by show W2.cell? _ = _; rw [p5.old _ _ (.inl (Ne.symm hbc))]; exact r1⟩
  have hsb : W2.heap.size = W1.heap.size := p5.sz
  have hs1 : w.heap.size ≤ W2.heap.size := K2.size
  have HPM : Hid (∀ (w3 : World) (x : Nat), Kp (fun k => k ∈ q.s :: L) W2.drew w3 → ∃ es cl c es' cl', w3.heap[q.m]? = some (.map es cl) ∧ MapOf L N c ∧ (Instr.mapUpdate 82 (.map (some q.m)) (.int .i64 (k : Int)) (.pointer (some ⟨x, 0, none⟩))).run Tryz.prog w3 = .ok () (setBlock w3 q.m (.map es' cl')) ∧ Mi (putI c (k : Int) (.pointer (some ⟨x, 0, none⟩))) es'.toList cl') := fun w3 x hk3 => by
    obtain ⟨es, cl, c, hm, hM, hO⟩ := (M2.kept (Kp.drew none' W2) (fun h => h)).kept hk3 H.s4
    obtain ⟨es', cl', hput, hM'⟩ := run_putI (t := 82) (e := 77) Tryz.underlying82 hm hM (k : Int) (.pointer (some ⟨x, 0, none⟩))
    exact ⟨es, cl, c, es', cl', hm, hO, hput, hM'⟩
  have kS : ∀ (W : World) (o : Obj), (W.cell? ⟨q.c, 3, none⟩ = some (.map (some q.m)) ∧ W.cell? ⟨q.c, 2, none⟩ = some (.pointer (some ⟨q.s, 0, none⟩)) ∧ W.cell? ⟨b, 0, none⟩ = some (.int .i64 (k : Int)) ∧ W.cell? ⟨b, 1, none⟩ = some (.string X)) →
      ((setBlock W q.m o).cell? ⟨q.c, 3, none⟩ = some (.map (some q.m)) ∧ (setBlock W q.m o).cell? ⟨q.c, 2, none⟩ = some (.pointer (some ⟨q.s, 0, none⟩)) ∧ (setBlock W q.m o).cell? ⟨b, 0, none⟩ = some (.int .i64 (k : Int)) ∧ (setBlock W q.m o).cell? ⟨b, 1, none⟩ = some (.string X)) := fun W o h => by
    have ks := Kp.setBlock (S := only q.m) W q.m o rfl
    exact ⟨ks.cell h.1 H.s3.1, ks.cell h.2.1 H.s3.1, ks.cell h.2.2.1 (Ne.symm hbm), ks.cell h.2.2.2 (Ne.symm hbm)⟩
  clear M2
  go_region_held_law (fun W => W.cell? ⟨q.c, 3, none⟩ = some (.map (some q.m)) ∧ W.cell? ⟨q.c, 2, none⟩ = some (.pointer (some ⟨q.s, 0, none⟩)) ∧ W.cell? ⟨b, 0, none⟩ = some (.int .i64 (k : Int)) ∧ W.cell? ⟨b, 1, none⟩ = some (.string X)) (first | assumption | exact kS _ _ (by assumption)) (first
    | (go_at_call 71; refine hpu.mono ?_; rintro e w3 ⟨x, ah3, be3, rfl, hx3, hr3, hk3⟩; have T3 : w3.cell? ⟨q.c, 3, none⟩ = some (.map (some q.m)) ∧ w3.cell? ⟨q.c, 2, none⟩ = some (.pointer (some ⟨q.s, 0, none⟩)) ∧ w3.cell? ⟨b, 0, none⟩ = some (.int .i64 (k : Int)) ∧ w3.cell? ⟨b, 1, none⟩ = some (.string X) := ⟨hk3.cell t0.1 H.s3.2, hk3.cell t0.2.1 H.s3.2, hk3.cell t0.2.2.1 hbs, hk3.cell t0.2.2.2 hbs⟩; obtain ⟨es, cl, c, es', cl', hm3, hO3, hput, hM3⟩ := HPM.out w3 x hk3)
    | fail)
  have hx2 : w.heap.size ≤ x := Nat.le_trans hs1 hx3
  have hxf : ∀ j, q.foot L j → j ≠ x := fun j hj e => by have := H.lt j hj; omega
  have hxl : x ∉ q.s :: L := fun hm => hxf x (.inr (.inr (.inr (.inr hm)))) rfl
  have hxL : x ∉ L := fun hm => hxl (List.mem_cons_of_mem _ hm)
  have KS := Kp.setBlock (S := only q.m) w3 q.m (.map es' cl') rfl
  have K4 : Kp (fun j => j = q.c ∨ j = q.m ∨ j ∈ q.s :: L) w (setBlock w3 q.m (.map es' cl')) := ((K2.mono (fun j _ e => .inl e)).then ((Kp.drew none' W2).nThen hk3 |>.mono (fun j _ e => .inr (.inr e)))).then (KS.mono (fun j _ e => .inr (.inl e)))
  have hne : ∀ j, q.p.mem j ∨ j = q.g → ¬ (j = q.c ∨ j = q.m ∨ j ∈ q.s :: L) := fun j hj e => by
    have := H.apart j hj
    rcases e with e | e | e
    · exact this.1 e
    · exact this.2.1 e
    · exact this.2.2 e
  have hRP := H.rest K4 hne
  have C4 := ((C2.kept (Kp.drew none' W2) (fun h => h)).kept hk3 H.s3.2).kept KS H.s3.1
  have hxm : q.m ∉ q.s :: x :: L := fun hm => by
    simp only [List.mem_cons] at hm
    rcases hm with e | e | e
    · exact H.s4 (by rw [e]; exact List.mem_cons_self)
    · exact hxf _ (.inr (.inr (.inr (.inl rfl)))) e
    · exact H.s4 (List.mem_cons_of_mem _ e)
  have more : ∀ j, q.foot L j → j ∈ q.s :: x :: L → j ∈ q.s :: L := fun j hj hm => by
    simp only [List.mem_cons] at hm ⊢
    rcases hm with e | e | e
    · exact .inl e
    · exact absurd e (hxf j hj)
    · exact .inr e
  have R4 := hr3.kept KS (fun y hy e => hxm (by rw [show y = q.m from e] at hy; exact hy))
  have hb4 : (setBlock w3 q.m (.map es' cl')).heap[q.m]? = some (.map es' cl') := (MapKept.heap_set hm3).1
  have M4 := Mc.put hb4 hM3 hO3 hn hxL
  have hmp := map_upd (N := N) (n := (k : Int)) hxL
  have A4 : Ca (setBlock w3 q.m (.map es' cl')) q D Q M cm (x :: L) (updF' N x (k : Int)) (updF' T x X) h (mi + 1) := by
    refine ⟨hRP.1, H.st, hRP.2, C4, ⟨ah3, be3, R4⟩, M4, by rw [hmp]; exact List.nodup_cons.2 ⟨hn, H.nd⟩, fun y hy => ?_, fun j hj => ⟨(H.s1 j hj).1, (H.s1 j hj).2.1, fun hm => (H.s1 j hj).2.2 (more j (.inl hj) hm)⟩,
      ⟨H.s2.1, H.s2.2.1, fun hm => H.s2.2.2 (more _ (.inr (.inl rfl)) hm)⟩, ⟨H.s3.1, fun hm => H.s3.2 (more _ (.inr (.inr (.inl rfl))) hm)⟩, hxm, H.n2, H.hQ, H.sm⟩
    by_cases e : y = x
    · subst e
      exact ⟨k, hk, by simp [updF'], by simp [updF', HX.out]⟩
    · rcases List.mem_cons.1 hy with e' | hy'
      · exact absurd e' e
      · obtain ⟨k', a1, a2, a3⟩ := H.da y hy'
        exact ⟨k', a1, by simp [updF', e, a2], by simp [updF', e, a3]⟩
  have hlen : es'.size = L.length + 1 := by
    obtain ⟨es2, cl2, c2, q1, q2, q3⟩ := A4.mc
    rw [hb4] at q1
    cases q1
    have := q3.size q2 A4.nd
    simpa using this
  have hfoot : ∀ j, q.foot (x :: L) j → q.foot L j ∨ w.heap.size ≤ j := fun j hj => by
    rcases hj with e | e | e | e | e
    · exact .inl (.inl e)
    · exact .inl (.inr (.inl e))
    · exact .inl (.inr (.inr (.inl e)))
    · exact .inl (.inr (.inr (.inr (.inl e))))
    · simp only [List.mem_cons] at e
      rcases e with e | e | e
      · exact .inl (.inr (.inr (.inr (.inr (by rw [e]; exact List.mem_cons_self)))))
      · exact .inr (by rw [e]; exact hx2)
      · exact .inl (.inr (.inr (.inr (.inr (List.mem_cons_of_mem _ e)))))
  have HFT := hide hfoot
  have HK4 := hide K4
  have HMP := hide hmp
  have hru := run_lenI (w := (setBlock w3 q.m (.map es' cl')).drew) (ty := 3) Tryz.underlying82 (m := q.m) hb4
  rw [hlen] at hru
  obtain ⟨W4, H4⟩ : ∃ W4, Hid (setBlock w3 q.m (.map es' cl') = W4) := ⟨_, rfl⟩
  rw [H4.out] at A4 hru HK4 ⊢
  have A5 := A4.keptN (Kp.drew none' W4)
  have e1 := A4.cc.c1
  have e3 := A4.cc.c3
  clear hfoot K4 hmp KS R4 hb4 M4 hRP C4 hM3 hO3 hput kS HPM hlen hpu t0 T3
  have HK5 : Hid (Kp (q.foot L) w W4.drew) := (HK4.out.mono (fun j _ e => by
    rcases e with e | e | e
    · exact .inr (.inr (.inl e))
    · exact .inr (.inr (.inr (.inl e)))
    · exact .inr (.inr (.inr (.inr e))))).thenN (Kp.drew _ _)
  go_wp2
  by_cases hsz : q.sz < L.length + 1
  · have hsi : (q.sz : Int) < ((L.length + 1 : Nat) : Int) := by omega
    obtain ⟨L2, y, hL2⟩ : ∃ L2 y, x :: L = L2 ++ [y] := ⟨(x :: L).dropLast, (x :: L).getLast (by simp), (List.dropLast_concat_getLast (by simp)).symm⟩
    have HL2 := hide hL2
    have A6 := A5
    rw [hL2] at A6
    have hdr := dropLast_any A6
    clear hL2 A6
    go_region
    all_goals go_wp2_with (first
      | (go_at_call 72; refine hdr.mono ?_; rintro e w7 ⟨rfl, A7, hk7⟩)
      | fail)
    all_goals first | go_end0 | ((try simp only [Exit.inBlock, Exit.then]); refine bodyPost_ret (results_none rfl _ _ _) rfl ?_)
    all_goals (
      have hmem : ∀ z, z ∈ L2 → z ∈ x :: L := fun z hz => by rw [HL2.out]; exact List.mem_append.2 (.inl hz)
      have hl2 : L2.length = q.sz := by
        have := congrArg List.length HL2.out
        simp at this
        omega
      refine ⟨rfl, L2, _, _, A7, ?_, HK5.out.trans hk7 (fun _ _ e => e) (fun j hj e => ?_), fun j hj => HFT.out j ?_⟩
      · rw [← HMP.out, HL2.out, List.map_append, List.take_append_of_le_length (by rw [List.length_map]; omega), List.take_of_length_le (by rw [List.length_map]; omega)]
      · rw [← HL2.out] at e
        rcases HFT.out j e with e | e
        · exact e
        · omega
      · rcases hj with e | e | e | e | e
        · exact .inl e
        · exact .inr (.inl e)
        · exact .inr (.inr (.inl e))
        · exact .inr (.inr (.inr (.inl e)))
        · refine .inr (.inr (.inr (.inr ?_)))
          rcases List.mem_cons.1 e with e | e
          · rw [e]; exact List.mem_cons_self
          · exact List.mem_cons_of_mem _ (hmem j e))
  · have hsi : ¬ (q.sz : Int) < ((L.length + 1 : Nat) : Int) := by omega
    go_region
    all_goals go_wp2
    all_goals first | go_end0 | ((try simp only [Exit.inBlock, Exit.then]); refine bodyPost_ret (results_none rfl _ _ _) rfl ?_)
    all_goals (
      have e4 : (x :: L).map (updF' N x (k : Int)) = ((k : Int) :: L.map N).take q.sz := by rw [HMP.out, List.take_of_length_le (by rw [List.length_cons, List.length_map]; omega)]
      first
        | exact ⟨rfl, x :: L, _, _, A5, e4, HK5.out, HFT.out⟩
        | exact ⟨rfl, x :: L, _, ⟨_, A5⟩, e4, HK5.out, HFT.out⟩)

end Go.Proofs.YtmnedhlgplkfhaaGreat

namespace Go.Proofs.YtmnedhlgplkfhaaGreat
open Go.RowKit
open Go.ChangeMaps (setBlock)
set_option linter.unusedVariables false

set_option maxRecDepth 100000 in
set_option maxHeartbeats 400000 in
theorem pread_bad (g n : Nat) (z : Int) (w : World) (h1 : w.cell? ⟨g, 1, none⟩ = some (.int .i64 n)) (hz : ¬ (0 ≤ z ∧ z < (n : Int))) :
    Calls Tryz.prog 49 #[.pointer (some ⟨g, 0, none⟩), .int .i64 z] w fun e w' => e = .returned (.tuple #[.string ⟨#[]⟩, .int .i64 7]) ∧ w' = w := by
  have hB : hasB n z = false := by
    cases h : hasB n z with
    | false => rfl
    | true => simp [hasB] at h; exact absurd (by omega) hz
  go_enter Tryz.func49, Tryz.ntmps49
  go_wp2_with (first
    | (go_at_call 68; refine (phas_any _ _ _ _ h1).mono ?_; rintro e w' ⟨rfl, rfl⟩; rw [hB])
    | fail)
  go_ret2
  exact ⟨rfl, rfl⟩
theorem zeroLk (w : World) : (zeroValue 77).run Tryz.prog w = .ok (.pointer none) w := Tryz.zeroValue77 w
/-- A cache that keeps the pages K, in this order; all its blocks are of F. -/
def Cas (w : World) (q : Cq) (F : Nat → Prop) (D : Dv) (Q : Nat → ByteArray) (M cm : Int) (K : List Int) (h mi : Int) : Prop :=
  ∃ L N T, Ca w q D Q M cm L N T h mi ∧ L.map N = K ∧ K.length ≤ q.sz ∧ ∀ k, q.foot L k → F k
theorem Cas.kept {w w' : World} {q : Cq} {F S : Nat → Prop} {D : Dv} {Q : Nat → ByteArray} {M cm : Int} {K : List Int} {h mi : Int} (H : Cas w q F D Q M cm K h mi) (hk : Kp S w w') (hS : ∀ k, k < w.heap.size → F k → ¬ S k) : Cas w' q F D Q M cm K h mi := by
  obtain ⟨L, N, T, h1, h2, h3, h4⟩ := H
  exact ⟨L, N, T, h1.kept hk (fun k hk => hS k (h1.lt k hk) (h4 k hk)), h2, h3, h4⟩
theorem Cas.keptN {w w' : World} {q : Cq} {F : Nat → Prop} {D : Dv} {Q : Nat → ByteArray} {M cm : Int} {K : List Int} {h mi : Int} (H : Cas w q F D Q M cm K h mi) (hk : Kp none' w w') : Cas w' q F D Q M cm K h mi := H.kept hk (fun _ _ _ h => h)
theorem Cas.mono {w : World} {q : Cq} {F G : Nat → Prop} {D : Dv} {Q : Nat → ByteArray} {M cm : Int} {K : List Int} {h mi : Int} (H : Cas w q F D Q M cm K h mi) (hF : ∀ k, k < w.heap.size → F k → G k) : Cas w q G D Q M cm K h mi := by
  obtain ⟨L, N, T, h1, h2, h3, h4⟩ := H
  exact ⟨L, N, T, h1, h2, h3, fun k hk => hF k (h1.lt k hk) (h4 k hk)⟩
theorem nodup_erase {p r : List Int} {z : Int} (h : (p ++ z :: r).Nodup) : (p ++ z :: r).erase z = p ++ r := by
  have hz : z ∉ p := fun hm => by
    rw [List.nodup_append] at h
    exact h.2.2 z hm z List.mem_cons_self rfl
  rw [List.erase_append_right _ hz]
  simp
set_option maxRecDepth 100000 in
set_option maxHeartbeats 800000 in
theorem cread_hit {w : World} {q : Cq} {F : Nat → Prop} {D : Dv} {Q : Nat → ByteArray} {M cm : Int} {K : List Int} {h mi : Int} (H : Cas w q F D Q M cm K h mi) (h0 : 0 ≤ h) (h1 : h ≤ 1000000000) (z : Int) (hz : z ∈ K) :
    Calls Tryz.prog 19 #[.pointer (some ⟨q.c, 0, none⟩), .int .i64 z] w fun e w' => (0 ≤ z ∧ z < (q.n : Int)) ∧ e = .returned (.tuple #[.string (Q z.toNat), .int .i64 0]) ∧ Cas w' q F D Q M cm (use q.sz K z) (h + 1) mi ∧ Kp F w w' := by
  obtain ⟨L, N, T, HA, rfl, hl, hF⟩ := H
  obtain ⟨x, hx, rfl⟩ := List.mem_map.1 hz
  obtain ⟨p, r, rfl⟩ := List.append_of_mem hx
  obtain ⟨k, hk, hNk, hTk⟩ := HA.da x hx
  obtain ⟨es, cl, c, hm, hM, hO⟩ := HA.mc
  have hcx := hO.someOf hx
  have hlk := run_lookI (t := 82) (e := 77) Tryz.underlying82 zeroLk hm hM (N x) true
  rw [hcx] at hlk
  have hop := copen_any q.c q.g w HA.cc.c0
  have hhi := hit_any HA h0 h1
  have c3 := HA.cc.c3
  have hnd := HA.nd
  rw [List.map_append, List.map_cons] at hnd
  have hu : use q.sz ((p ++ x :: r).map N) (N x) = (x :: (p ++ r)).map N := by
    unfold use
    rw [if_pos hz, List.map_append, List.map_cons, nodup_erase hnd, List.map_cons, List.map_append]
  have HU := hide hu
  have hle : ((x :: (p ++ r)).map N).length ≤ q.sz := by
    have := hl
    simp only [List.length_map, List.length_append, List.length_cons] at this ⊢
    omega
  have hT : T x = Q (N x).toNat := by rw [hTk, hNk]; rfl
  have hzr : 0 ≤ N x ∧ N x < (q.n : Int) := by rw [hNk]; omega
  have HZ := hide hzr
  have HLE := hide hle
  clear hu hle hnd hzr hNk hTk
  obtain ⟨Y, HY⟩ : ∃ Y, Hid (T x = Y) := ⟨_, rfl⟩
  rw [HY.out] at hhi hT
  obtain ⟨z, HZZ⟩ : ∃ z, Hid (N x = z) := ⟨_, rfl⟩
  rw [HZZ.out] at hlk HU HZ hT ⊢
  rw [← hT]
  clear hT
  go_enter Tryz.func19, Tryz.ntmps19
  go_wp2_with (first
    | (go_at_call 47; refine hop.mono ?_; rintro e w' ⟨rfl, rfl⟩)
    | (go_at_call 48; refine hhi.mono ?_; rintro e w2 ⟨rfl, A2, hk2⟩)
    | fail)
  go_ret2
  refine ⟨HZ.out, rfl, ⟨_, N, T, A2, by rw [HU.out], by rw [HU.out]; exact HLE.out, fun j hj => hF j ?_⟩, hk2.mono (fun j _ hj => hF j hj)⟩
  rcases hj with e | e | e | e | e
  · exact .inl e
  · exact .inr (.inl e)
  · exact .inr (.inr (.inl e))
  · exact .inr (.inr (.inr (.inl e)))
  · refine .inr (.inr (.inr (.inr ?_)))
    simp only [List.mem_cons, List.mem_append] at e ⊢
    rcases e with e | e | e | e
    · exact .inl e
    · exact .inr (.inr (.inl e))
    · exact .inr (.inl e)
    · exact .inr (.inr (.inr e))
set_option maxRecDepth 100000 in
set_option maxHeartbeats 800000 in
theorem cread_miss {w : World} {q : Cq} {F : Nat → Prop} {D : Dv} {Q : Nat → ByteArray} {M cm : Int} {K : List Int} {h mi : Int} (H : Cas w q F D Q M cm K h mi) (h0 : 0 ≤ mi) (h1 : mi ≤ 1000000000) (k : Nat) (hk : k < q.n) (hz : (k : Int) ∉ K) :
    Calls Tryz.prog 19 #[.pointer (some ⟨q.c, 0, none⟩), .int .i64 (k : Int)] w fun e w' => e = .returned (.tuple #[.string (Q k), .int .i64 0]) ∧ Cas w' q (fun j => F j ∨ w.heap.size ≤ j) D Q M cm (use q.sz K (k : Int)) h (mi + 1) ∧ Kp F w w' := by
  obtain ⟨L, N, T, HA, rfl, hl, hF⟩ := H
  obtain ⟨es, cl, c, hm, hM, hO⟩ := HA.mc
  have hcx := hO.noneOf hz
  have hlk := run_lookI (t := 82) (e := 77) Tryz.underlying82 zeroLk hm hM (k : Int) true
  rw [hcx] at hlk
  have hop := copen_any q.c q.g w HA.cc.c0
  have c3 := HA.cc.c3
  have c0 := HA.cc.c0
  have hrd := rest_read HA.hR HA.n2 HA.hQ HA.hP hk
  have hmi : ∀ W : World, Kp none' w W → _ := fun W hW => miss_any (HA.keptN hW) (by simpa using hl) k hk hz h0 h1
  have HMI := hide hmi
  have HU : Hid (use q.sz (L.map N) (k : Int) = ((k : Int) :: L.map N).take q.sz) := by show _ = _; unfold use; rw [if_neg hz]
  obtain ⟨X, HX⟩ : ∃ X, Hid (Q k = X) := ⟨_, rfl⟩
  rw [HX.out] at hrd HMI ⊢
  clear hmi
  go_enter Tryz.func19, Tryz.ntmps19
  go_wp2_with (first
    | (go_at_call 47; refine hop.mono ?_; rintro e w' ⟨rfl, rfl⟩)
    | (go_at_call 49; refine hrd.mono ?_; rintro e w2 ⟨rfl, hk2⟩)
    | (go_at_call 50; refine (HMI.out w2 hk2).mono ?_; rintro e w3 ⟨rfl, L3, N3, T3, A3, hL3, hk3, hf3⟩)
    | fail)
  go_ret2
  refine ⟨rfl, ⟨L3, N3, T3, A3, by rw [HU.out]; exact hL3, by rw [HU.out, List.length_take]; omega, fun j hj => ?_⟩, hk2.trans hk3 (fun _ _ h => h.elim) (fun j _ hj => hF j hj)⟩
  rcases hf3 j hj with e | e
  · exact .inl (hF j e)
  · exact .inr (Nat.le_trans hk2.size e)
set_option maxRecDepth 100000 in
set_option maxHeartbeats 800000 in
theorem cread_bad {w : World} {q : Cq} {F : Nat → Prop} {D : Dv} {Q : Nat → ByteArray} {M cm : Int} {K : List Int} {h mi : Int} (H : Cas w q F D Q M cm K h mi) (z : Int) (hz : ¬ (0 ≤ z ∧ z < (q.n : Int))) :
    Calls Tryz.prog 19 #[.pointer (some ⟨q.c, 0, none⟩), .int .i64 z] w fun e w' => e = .returned (.tuple #[.string ⟨#[]⟩, .int .i64 7]) ∧ w' = w := by
  obtain ⟨L, N, T, HA, rfl, hl, hF⟩ := H
  obtain ⟨es, cl, c, hm, hM, hO⟩ := HA.mc
  have hzn : z ∉ L.map N := fun hmem => by
    obtain ⟨x, hx, rfl⟩ := List.mem_map.1 hmem
    obtain ⟨k, hk, hNk, _⟩ := HA.da x hx
    exact hz (by rw [hNk]; omega)
  have hcx := hO.noneOf hzn
  have hlk := run_lookI (t := 82) (e := 77) Tryz.underlying82 zeroLk hm hM z true
  rw [hcx] at hlk
  have hop := copen_any q.c q.g w HA.cc.c0
  have c3 := HA.cc.c3
  have c0 := HA.cc.c0
  have hrd := pread_bad q.g q.n z w HA.hP.c1 hz
  clear hz
  go_enter Tryz.func19, Tryz.ntmps19
  go_wp2_with (first
    | (go_at_call 47; refine hop.mono ?_; rintro e w' ⟨rfl, rfl⟩)
    | (go_at_call 49; refine hrd.mono ?_; rintro e w' ⟨rfl, rfl⟩)
    | fail)
  go_ret2
  exact ⟨rfl, rfl⟩
set_option maxRecDepth 100000 in
set_option maxHeartbeats 400000 in
theorem cread_nil (z : Int) (w : World) : Calls Tryz.prog 19 #[.pointer none, .int .i64 z] w fun e w' => e = .returned (.tuple #[.string ⟨#[]⟩, .int .i64 1]) ∧ w' = w := by
  have hop := copen_nil w
  go_enter Tryz.func19, Tryz.ntmps19
  go_wp2_with (first
    | (go_at_call 47; refine hop.mono ?_; rintro e w' ⟨rfl, rfl⟩)
    | fail)
  go_ret2
  exact ⟨rfl, rfl⟩

end Go.Proofs.YtmnedhlgplkfhaaGreat

namespace Go.Proofs.YtmnedhlgplkfhaaGreat
open Go.RowKit
open Go.ChangeMaps (setBlock)
set_option linter.unusedVariables false

theorem make_room (w : World) (n : Nat) (hn : n ≤ 1000000) : ∃ wa, (Instr.makeSlice 41 (.int .i64 0) (.int .i64 (n : Int))).run Tryz.prog w = .ok (.slice (some ⟨w.heap.size, 0, none⟩) 0 n) wa ∧ Ow (Value.int .i64) 3 wa w.heap.size (.slice (some ⟨w.heap.size, 0, none⟩) 0 n) [] ∧ Kp none' w wa := by
  obtain ⟨i0, hi, hz0, hz1, hz2⟩ := info_parts infoI
  have hr := run_make (P := Tryz.prog) w 41 3 i0 _ Tryz.underlying41 hi hz0 .i64 .i64 0 (n : Int) (by omega) (by omega) (by rw [hz2]; omega) (by omega)
  refine ⟨_, hr, ⟨by simp, .inr ⟨w.heap.size, n, _, rfl, Nat.le_refl _, heap_alloc_new w _, Nat.zero_le _, by unfold maxLen; omega, ?_, by simp⟩⟩, Kp.alloc _ _ _⟩
  rw [hz1]
  simp [Value.cells, madeCells]
/-- What Kept has gathered so far: in its variable v, in rows of its own. -/
structure Gat (w W : World) (v box : Nat) (N : Nat → Int) (p : List Nat) : Prop where
  sl : ∃ sa sc, W.cell? ⟨v, 0, none⟩ = some (.slice sa p.length sc) ∧ Ow (Value.int .i64) 3 W w.heap.size (.slice sa p.length sc) (p.map N) ∧ ∀ k, (Value.slice sa p.length sc).ownBlock = some k → k ≠ v ∧ k ≠ box
  fr : W.frozen? ⟨v, 0, none⟩ = false
  kp : Kp none' w W
  bx : box < W.heap.size
set_option maxRecDepth 100000 in
set_option maxHeartbeats 400000 in
theorem cpages_nil (w : World) : Calls Tryz.prog 24 #[.pointer none] w fun e w' => e = .returned (.int .i64 0) ∧ w' = w := by
  have hop := copen_nil w
  go_enter Tryz.func24, Tryz.ntmps24
  go_wp2_with (first
    | (go_at_call 47; refine hop.mono ?_; rintro e w' ⟨rfl, rfl⟩)
    | fail)
  go_ret
  exact ⟨rfl, rfl⟩
set_option maxRecDepth 100000 in
set_option maxHeartbeats 400000 in
theorem cpages_any {w : World} {q : Cq} {F : Nat → Prop} {D : Dv} {Q : Nat → ByteArray} {M cm : Int} {K : List Int} {h mi : Int} (H : Cas w q F D Q M cm K h mi) : Calls Tryz.prog 24 #[.pointer (some ⟨q.c, 0, none⟩)] w fun e w' => e = .returned (.int .i64 (q.n : Int)) ∧ w' = w := by
  obtain ⟨L, N, T, HA, rfl, hl, hF⟩ := H
  have hop := copen_any q.c q.g w HA.cc.c0
  have c0 := HA.cc.c0
  have hsi := psize_any q.g (q.n : Int) w HA.hP.c1
  go_enter Tryz.func24, Tryz.ntmps24
  go_wp2_with (first
    | (go_at_call 47; refine hop.mono ?_; rintro e w' ⟨rfl, rfl⟩)
    | (go_at_call 51; refine hsi.mono ?_; rintro e w' ⟨rfl, rfl⟩)
    | fail)
  go_ret
  exact ⟨rfl, rfl⟩

end Go.Proofs.YtmnedhlgplkfhaaGreat

namespace Go.Proofs.YtmnedhlgplkfhaaGreat
open Go.RowKit
open Go.ChangeMaps (setBlock)
set_option linter.unusedVariables false

set_option maxRecDepth 100000 in
set_option maxHeartbeats 400000 in
theorem cnew_nil (z : Int) (w : World) : Calls Tryz.prog 61 #[.pointer none, .int .i64 z] w fun e w' => e = .returned (.pointer none) ∧ w' = w := by
  go_enter Tryz.func61, Tryz.ntmps61
  go_wp2
  go_ret
  exact ⟨rfl, rfl⟩
/-- How many pages may be kept. -/
def szN (z : Int) : Nat := (min (max z 0) 64).toNat
set_option maxRecDepth 100000 in
set_option maxHeartbeats 800000 in
theorem cnew_any {w : World} {p : Dp} {D : Dv} {n g : Nat} {Q : Nat → ByteArray} {M cm : Int} (z : Int) (hR : Rest w p D n Q M) (st : D.st = false) (hP : Pag w g p n cm (.slice none 0 0) []) (hn : n ≤ 160) (hQ : ∀ p, (Q p).size = 256) :
    Calls Tryz.prog 61 #[.pointer (some ⟨g, 0, none⟩), .int .i64 z] w fun e w' => ∃ q : Cq, e = .returned (.pointer (some ⟨q.c, 0, none⟩)) ∧ q.n = n ∧ q.sz = szN z ∧ q.p = p ∧ q.g = g ∧ Cas w' q (fun k => p.mem k ∨ k = g ∨ w.heap.size ≤ k) D Q M cm [] 0 0 ∧ Kp none' w w' := by
  have hne := newRing_any w
  have HSZ : Hid (min (max z 0) 64 = (szN z : Int)) := by show _ = _; unfold szN; omega
  have hcm : ∀ W : World, Kp none' w W → Calls Tryz.prog 76 #[.pointer (some ⟨g, 0, none⟩)] W fun e w' => e = .returned (.int .i64 cm) ∧ w' = W := fun W hW => pcommits_any g cm W (hW.cell hP.c2 (fun h => h))
  have HCM := hide hcm
  clear hcm
  have hmm := @run_makeMap Tryz.prog
  have hum := Tryz.underlying82
  go_enter Tryz.func61, Tryz.ntmps61
  go_wp2_with (first
    | (go_at_call 79; refine hne.mono ?_; rintro e w1 ⟨s, rfl, hs1, hr1, hk1⟩)
    | (go_at_call 76; refine (HCM.out _ (hk1.then (Kp.alloc none' w1 _))).mono ?_; rintro e w' ⟨rfl, rfl⟩)
    | fail)
  go_ret
  rw [HSZ.out]
  have k2 := Kp.alloc none' w1 (.map #[] 0)
  have hm2 : (w1.alloc (.map #[] 0)).heap[w1.heap.size]? = some (.map #[] 0) := heap_alloc_new w1 _
  have s2 : (w1.alloc (.map #[] 0)).heap.size = w1.heap.size + 1 := by simp
  obtain ⟨W2, H2⟩ : ∃ W2, Hid (w1.alloc (.map #[] 0) = W2) := ⟨_, rfl⟩
  rw [H2.out] at k2 hm2 s2 ⊢
  have cell := new_cell W2 #[.pointer (some ⟨g, 0, none⟩), .int .i64 (szN z : Int), .pointer (some ⟨s, 0, none⟩), .map (some w1.heap.size), .int .i64 0, .int .i64 0, .int .i64 cm] 84
  have froz := new_frozen W2 #[.pointer (some ⟨g, 0, none⟩), .int .i64 (szN z : Int), .pointer (some ⟨s, 0, none⟩), .map (some w1.heap.size), .int .i64 0, .int .i64 0, .int .i64 cm] 84
  have k3 := Kp.alloc none' W2 (.cells #[.pointer (some ⟨g, 0, none⟩), .int .i64 (szN z : Int), .pointer (some ⟨s, 0, none⟩), .map (some w1.heap.size), .int .i64 0, .int .i64 0, .int .i64 cm] 84)
  obtain ⟨W3, H3⟩ : ∃ W3, Hid (W2.alloc (.cells #[.pointer (some ⟨g, 0, none⟩), .int .i64 (szN z : Int), .pointer (some ⟨s, 0, none⟩), .map (some w1.heap.size), .int .i64 0, .int .i64 0, .int .i64 cm] 84) = W3) := ⟨_, rfl⟩
  rw [H3.out] at k3 cell froz ⊢
  rw [s2] at cell froz
  have kw := (hk1.then k2).then k3
  have k23 := k2.then k3
  have hs := (hr1.rm s (by simp)).lt
  have hpm := hR.hd.lt
  have hg := hP.lt
  have hsz := hk1.size
  have hR3 := hR.keptN kw
  have hP3 := hP.keptN kw
  have hr3 := hr1.kept k23 (fun _ _ h => h)
  have hm3 : W3.heap[w1.heap.size]? = some (.map #[] 0) := by rw [k3.block w1.heap.size (by omega) (fun h => h)]; exact hm2
  refine ⟨⟨w1.heap.size + 1, g, s, w1.heap.size, p, n, szN z⟩, rfl, rfl, rfl, rfl, rfl, ⟨[], fun _ => 0, fun _ => ⟨#[]⟩, ⟨hR3, st, hP3, ⟨cell 0 _ rfl, cell 1 _ rfl, cell 2 _ rfl, cell 3 _ rfl, cell 4 _ rfl, cell 5 _ rfl, cell 6 _ rfl, froz⟩, ⟨_, _, hr3⟩, ⟨#[], 0, fun _ => none, hm3, Mi.nil 0, fun z v => by simp⟩, by simp, by simp, ?_, ?_, ?_, ?_, hn, hQ, ?_⟩, rfl, Nat.zero_le _, ?_⟩, kw⟩
  · intro k hk
    have := hpm k hk
    refine ⟨?_, ?_, ?_⟩
    · show k ≠ w1.heap.size + 1; omega
    · show k ≠ w1.heap.size; omega
    · show k ∉ [s]; simp; omega
  · refine ⟨?_, ?_, ?_⟩
    · show g ≠ w1.heap.size + 1; omega
    · show g ≠ w1.heap.size; omega
    · show g ∉ [s]; simp; omega
  · refine ⟨?_, ?_⟩
    · show w1.heap.size + 1 ≠ w1.heap.size; omega
    · show w1.heap.size + 1 ∉ [s]; simp; omega
  · show w1.heap.size ∉ [s]; simp; omega
  · show szN z ≤ 64; unfold szN; omega
  · intro k hk
    rcases hk with e | e | e | e | e
    · exact .inl e
    · exact .inr (.inl e)
    · have e' : k = w1.heap.size + 1 := e
      exact .inr (.inr (by omega))
    · have e' : k = w1.heap.size := e
      exact .inr (.inr (by omega))
    · have e' : k = s := by simpa using e
      exact .inr (.inr (by omega))
end Go.Proofs.YtmnedhlgplkfhaaGreat
