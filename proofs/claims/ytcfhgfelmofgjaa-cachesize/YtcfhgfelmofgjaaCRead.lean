/- Contracts, over the turned program: a cache's Read. Conditions: those that each theorem states. -/
import Derived.Test.YtcfhgfelmofgjaaCMiss
namespace Go.Proofs.Ytcfhgfelmofgjaa
open Go.RowKit
open Go.ChangeMaps (setBlock)
set_option linter.unusedVariables false

set_option maxRecDepth 100000 in
set_option maxHeartbeats 400000 in
theorem pread_bad (g n : Nat) (z : Int) (w : World) (h1 : w.cell? ⟨g, 1, none⟩ = some (.int .i64 n)) (hz : ¬ (0 ≤ z ∧ z < (n : Int))) :
    Calls Try.prog 22 #[.pointer (some ⟨g, 0, none⟩), .int .i64 z] w fun e w' => e = .returned (.tuple #[.string ⟨#[]⟩, .int .i64 7]) ∧ w' = w := by
  have hB : hasB n z = false := by
    cases h : hasB n z with
    | false => rfl
    | true => simp [hasB] at h; exact absurd (by omega) hz
  go_enter Try.func22, Try.ntmps22
  go_wp2_with (first
    | (go_at_call 32; refine (phas_any _ _ _ _ h1).mono ?_; rintro e w' ⟨rfl, rfl⟩; rw [hB])
    | fail)
  go_ret2
  exact ⟨rfl, rfl⟩
theorem zeroLk (w : World) : (zeroValue 42).run Try.prog w = .ok (.pointer none) w := Try.zeroValue42 w
/-- A cache that keeps the pages K, in this order; all its blocks are of F. -/
def Cas (w : World) (q : Cq) (F : Nat → Prop) (D : Dv) (Q : Nat → ByteArray) (M cm : Int) (K : List Int) (h mi : Int) : Prop :=
  ∃ L N T, Ca w q D Q M cm L N T h mi ∧ L.map N = K ∧ K.length ≤ q.sz ∧ ∀ k, q.foot L k → F k
theorem Cas.kept {w w' : World} {q : Cq} {F S : Nat → Prop} {D : Dv} {Q : Nat → ByteArray} {M cm : Int} {K : List Int} {h mi : Int} (H : Cas w q F D Q M cm K h mi) (hk : Kp S w w') (hS : ∀ k, k < w.heap.size → F k → ¬ S k) : Cas w' q F D Q M cm K h mi := by
  obtain ⟨L, N, T, h1, h2, h3, h4⟩ := H
  exact ⟨L, N, T, h1.kept hk (fun k hk => hS k (h1.lt k hk) (h4 k hk)), h2, h3, h4⟩
theorem Cas.keptN {w w' : World} {q : Cq} {F : Nat → Prop} {D : Dv} {Q : Nat → ByteArray} {M cm : Int} {K : List Int} {h mi : Int} (H : Cas w q F D Q M cm K h mi) (hk : Kp none' w w') : Cas w' q F D Q M cm K h mi := H.kept hk (fun _ _ _ h => h)
theorem Cas.mono {w : World} {q : Cq} {F G : Nat → Prop} {D : Dv} {Q : Nat → ByteArray} {M cm : Int} {K : List Int} {h mi : Int} (H : Cas w q F D Q M cm K h mi) (hF : ∀ k, k < w.heap.size → F k → G k) : Cas w q G D Q M cm K h mi := by
  obtain ⟨L, N, T, h1, h2, h3, h4⟩ := H
  exact ⟨L, N, T, h1, h2, h3, fun k hk => hF k (h1.lt k hk) (h4 k hk)⟩
theorem nodup_erase {p r : List Int} {z : Int} (h : (p ++ z :: r).Nodup) : (p ++ z :: r).erase z = p ++ r := by
  have hz : z ∉ p := fun hm => by
    rw [List.nodup_append] at h
    exact h.2.2 z hm z List.mem_cons_self rfl
  rw [List.erase_append_right _ hz]
  simp
set_option maxRecDepth 100000 in
set_option maxHeartbeats 800000 in
theorem cread_hit {w : World} {q : Cq} {F : Nat → Prop} {D : Dv} {Q : Nat → ByteArray} {M cm : Int} {K : List Int} {h mi : Int} (H : Cas w q F D Q M cm K h mi) (h0 : 0 ≤ h) (h1 : h ≤ 1000000000) (z : Int) (hz : z ∈ K) :
    Calls Try.prog 9 #[.pointer (some ⟨q.c, 0, none⟩), .int .i64 z] w fun e w' => (0 ≤ z ∧ z < (q.n : Int)) ∧ e = .returned (.tuple #[.string (Q z.toNat), .int .i64 0]) ∧ Cas w' q F D Q M cm (use q.sz K z) (h + 1) mi ∧ Kp F w w' := by
  obtain ⟨L, N, T, HA, rfl, hl, hF⟩ := H
  obtain ⟨x, hx, rfl⟩ := List.mem_map.1 hz
  obtain ⟨p, r, rfl⟩ := List.append_of_mem hx
  obtain ⟨k, hk, hNk, hTk⟩ := HA.da x hx
  obtain ⟨es, cl, c, hm, hM, hO⟩ := HA.mc
  have hcx := hO.someOf hx
  have hlk := run_lookI (t := 48) (e := 42) Try.underlying48 zeroLk hm hM (N x) true
  rw [hcx] at hlk
  have hop := copen_any q.c q.g w HA.cc.c0
  have hhi := hit_any HA h0 h1
  have c3 := HA.cc.c3
  have hnd := HA.nd
  rw [List.map_append, List.map_cons] at hnd
  have hu : use q.sz ((p ++ x :: r).map N) (N x) = (x :: (p ++ r)).map N := by
    unfold use
    rw [if_pos hz, List.map_append, List.map_cons, nodup_erase hnd, List.map_cons, List.map_append]
  have HU := hide hu
  have hle : ((x :: (p ++ r)).map N).length ≤ q.sz := by
    have := hl
    simp only [List.length_map, List.length_append, List.length_cons] at this ⊢
    omega
  have hT : T x = Q (N x).toNat := by rw [hTk, hNk]; rfl
  have hzr : 0 ≤ N x ∧ N x < (q.n : Int) := by rw [hNk]; omega
  have HZ := hide hzr
  have HLE := hide hle
  clear hu hle hnd hzr hNk hTk
  obtain ⟨Y, HY⟩ : ∃ Y, Hid (T x = Y) := ⟨_, rfl⟩
  rw [HY.out] at hhi hT
  obtain ⟨z, HZZ⟩ : ∃ z, Hid (N x = z) := ⟨_, rfl⟩
  rw [HZZ.out] at hlk HU HZ hT ⊢
  rw [← hT]
  clear hT
  go_enter Try.func9, Try.ntmps9
  go_wp2_with (first
    | (go_at_call 20; refine hop.mono ?_; rintro e w' ⟨rfl, rfl⟩)
    | (go_at_call 21; refine hhi.mono ?_; rintro e w2 ⟨rfl, A2, hk2⟩)
    | fail)
  go_ret2
  refine ⟨HZ.out, rfl, ⟨_, N, T, A2, by rw [HU.out], by rw [HU.out]; exact HLE.out, fun j hj => hF j ?_⟩, hk2.mono (fun j _ hj => hF j hj)⟩
  rcases hj with e | e | e | e | e
  · exact .inl e
  · exact .inr (.inl e)
  · exact .inr (.inr (.inl e))
  · exact .inr (.inr (.inr (.inl e)))
  · refine .inr (.inr (.inr (.inr ?_)))
    simp only [List.mem_cons, List.mem_append] at e ⊢
    rcases e with e | e | e | e
    · exact .inl e
    · exact .inr (.inr (.inl e))
    · exact .inr (.inl e)
    · exact .inr (.inr (.inr e))
set_option maxRecDepth 100000 in
set_option maxHeartbeats 800000 in
theorem cread_miss {w : World} {q : Cq} {F : Nat → Prop} {D : Dv} {Q : Nat → ByteArray} {M cm : Int} {K : List Int} {h mi : Int} (H : Cas w q F D Q M cm K h mi) (h0 : 0 ≤ mi) (h1 : mi ≤ 1000000000) (k : Nat) (hk : k < q.n) (hz : (k : Int) ∉ K) :
    Calls Try.prog 9 #[.pointer (some ⟨q.c, 0, none⟩), .int .i64 (k : Int)] w fun e w' => e = .returned (.tuple #[.string (Q k), .int .i64 0]) ∧ Cas w' q (fun j => F j ∨ w.heap.size ≤ j) D Q M cm (use q.sz K (k : Int)) h (mi + 1) ∧ Kp F w w' := by
  obtain ⟨L, N, T, HA, rfl, hl, hF⟩ := H
  obtain ⟨es, cl, c, hm, hM, hO⟩ := HA.mc
  have hcx := hO.noneOf hz
  have hlk := run_lookI (t := 48) (e := 42) Try.underlying48 zeroLk hm hM (k : Int) true
  rw [hcx] at hlk
  have hop := copen_any q.c q.g w HA.cc.c0
  have c3 := HA.cc.c3
  have c0 := HA.cc.c0
  have hrd := rest_read HA.hR HA.n2 HA.hQ HA.hP hk
  have hmi : ∀ W : World, Kp none' w W → _ := fun W hW => miss_any (HA.keptN hW) (by simpa using hl) k hk hz h0 h1
  have HMI := hide hmi
  have HU : Hid (use q.sz (L.map N) (k : Int) = ((k : Int) :: L.map N).take q.sz) := by show _ = _; unfold use; rw [if_neg hz]
  obtain ⟨X, HX⟩ : ∃ X, Hid (Q k = X) := ⟨_, rfl⟩
  rw [HX.out] at hrd HMI ⊢
  clear hmi
  go_enter Try.func9, Try.ntmps9
  go_wp2_with (first
    | (go_at_call 20; refine hop.mono ?_; rintro e w' ⟨rfl, rfl⟩)
    | (go_at_call 22; refine hrd.mono ?_; rintro e w2 ⟨rfl, hk2⟩)
    | (go_at_call 23; refine (HMI.out w2 hk2).mono ?_; rintro e w3 ⟨rfl, L3, N3, T3, A3, hL3, hk3, hf3⟩)
    | fail)
  go_ret2
  refine ⟨rfl, ⟨L3, N3, T3, A3, by rw [HU.out]; exact hL3, by rw [HU.out, List.length_take]; omega, fun j hj => ?_⟩, hk2.trans hk3 (fun _ _ h => h.elim) (fun j _ hj => hF j hj)⟩
  rcases hf3 j hj with e | e
  · exact .inl (hF j e)
  · exact .inr (Nat.le_trans hk2.size e)
set_option maxRecDepth 100000 in
set_option maxHeartbeats 800000 in
theorem cread_bad {w : World} {q : Cq} {F : Nat → Prop} {D : Dv} {Q : Nat → ByteArray} {M cm : Int} {K : List Int} {h mi : Int} (H : Cas w q F D Q M cm K h mi) (z : Int) (hz : ¬ (0 ≤ z ∧ z < (q.n : Int))) :
    Calls Try.prog 9 #[.pointer (some ⟨q.c, 0, none⟩), .int .i64 z] w fun e w' => e = .returned (.tuple #[.string ⟨#[]⟩, .int .i64 7]) ∧ w' = w := by
  obtain ⟨L, N, T, HA, rfl, hl, hF⟩ := H
  obtain ⟨es, cl, c, hm, hM, hO⟩ := HA.mc
  have hzn : z ∉ L.map N := fun hmem => by
    obtain ⟨x, hx, rfl⟩ := List.mem_map.1 hmem
    obtain ⟨k, hk, hNk, _⟩ := HA.da x hx
    exact hz (by rw [hNk]; omega)
  have hcx := hO.noneOf hzn
  have hlk := run_lookI (t := 48) (e := 42) Try.underlying48 zeroLk hm hM z true
  rw [hcx] at hlk
  have hop := copen_any q.c q.g w HA.cc.c0
  have c3 := HA.cc.c3
  have c0 := HA.cc.c0
  have hrd := pread_bad q.g q.n z w HA.hP.c1 hz
  clear hz
  go_enter Try.func9, Try.ntmps9
  go_wp2_with (first
    | (go_at_call 20; refine hop.mono ?_; rintro e w' ⟨rfl, rfl⟩)
    | (go_at_call 22; refine hrd.mono ?_; rintro e w' ⟨rfl, rfl⟩)
    | fail)
  go_ret2
  exact ⟨rfl, rfl⟩
set_option maxRecDepth 100000 in
set_option maxHeartbeats 400000 in
theorem cread_nil (z : Int) (w : World) : Calls Try.prog 9 #[.pointer none, .int .i64 z] w fun e w' => e = .returned (.tuple #[.string ⟨#[]⟩, .int .i64 1]) ∧ w' = w := by
  have hop := copen_nil w
  go_enter Try.func9, Try.ntmps9
  go_wp2_with (first
    | (go_at_call 20; refine hop.mono ?_; rintro e w' ⟨rfl, rfl⟩)
    | fail)
  go_ret2
  exact ⟨rfl, rfl⟩

end Go.Proofs.Ytcfhgfelmofgjaa
