/- Contracts, over the turned program: a cache's parts. Conditions: those that each theorem states. -/
import Derived.Test.YtcfhgfelmofgjaaCMem
import Derived.BigQuiet
namespace Go.Proofs.Ytcfhgfelmofgjaa
open Go.RowKit
open Go.ChangeMaps (setBlock)
set_option linter.unusedVariables false

set_option maxRecDepth 100000 in
set_option maxHeartbeats 400000 in
theorem copen_nil (w : World) : Calls Try.prog 20 #[.pointer none] w fun e w' => e = .returned (.bool false) ∧ w' = w := by
  go_enter Try.func20, Try.ntmps20
  go_wp2
  go_ret
  exact ⟨rfl, rfl⟩
set_option maxRecDepth 100000 in
set_option maxHeartbeats 400000 in
theorem copen_any (c g : Nat) (w : World) (h0 : w.cell? ⟨c, 0, none⟩ = some (.pointer (some ⟨g, 0, none⟩))) : Calls Try.prog 20 #[.pointer (some ⟨c, 0, none⟩)] w fun e w' => e = .returned (.bool true) ∧ w' = w := by
  go_enter Try.func20, Try.ntmps20
  go_wp2
  go_ret
  exact ⟨rfl, rfl⟩
set_option maxRecDepth 100000 in
set_option maxHeartbeats 400000 in
theorem catchUp_any (c g : Nat) (cm : Int) (w : World) (h0 : w.cell? ⟨c, 0, none⟩ = some (.pointer (some ⟨g, 0, none⟩))) (h6 : w.cell? ⟨c, 6, none⟩ = some (.int .i64 cm)) (hg : w.cell? ⟨g, 2, none⟩ = some (.int .i64 cm)) :
    Calls Try.prog 29 #[.pointer (some ⟨c, 0, none⟩)] w fun e w' => e = .returned (.tuple #[]) ∧ Kp none' w w' := by
  have hk := Kp.alloc none' w (.cells #[.pointer (some ⟨c, 0, none⟩)] 26)
  have r1 := new_cell w #[.pointer (some ⟨c, 0, none⟩)] 26 0 _ rfl
  obtain ⟨b, HB⟩ : ∃ b, Hid (w.heap.size = b) := ⟨_, rfl⟩
  rw [HB.out] at r1
  go_enter Try.func29, Try.ntmps29
  go_upto_region 1 with fail
  rw [HB.out]
  obtain ⟨W1, H1⟩ : ∃ W1, Hid (w.alloc (.cells #[.pointer (some ⟨c, 0, none⟩)] 26) = W1) := ⟨_, rfl⟩
  rw [H1.out] at hk r1 ⊢
  have q0 := hk.cell h0 (fun h => h)
  have q6 := hk.cell h6 (fun h => h)
  have qg := hk.cell hg (fun h => h)
  have hcc : (cm == cm) = true := by simp
  have qgd : W1.drew.cell? ⟨g, 2, none⟩ = some (.int .i64 cm) := qg
  have t3 : W1.drew.cell? ⟨b, 0, none⟩ = some (.pointer (some ⟨c, 0, none⟩)) ∧ W1.drew.cell? ⟨c, 0, none⟩ = some (.pointer (some ⟨g, 0, none⟩)) ∧ W1.drew.cell? ⟨c, 6, none⟩ = some (.int .i64 cm) := ⟨r1, q0, q6⟩
  go_region_held_law (fun W => W.cell? ⟨b, 0, none⟩ = some (.pointer (some ⟨c, 0, none⟩)) ∧ W.cell? ⟨c, 0, none⟩ = some (.pointer (some ⟨g, 0, none⟩)) ∧ W.cell? ⟨c, 6, none⟩ = some (.int .i64 cm)) (first | assumption) (first
    | (go_at_call 16; refine (pcommits_any g cm _ qgd).mono ?_; rintro e w' ⟨rfl, rfl⟩)
    | fail)
  go_wp2
  first | go_end0 | ((try simp only [Exit.inBlock, Exit.then]); refine bodyPost_ret (results_none rfl _ _ _) rfl ?_)
  exact ⟨rfl, hk.then (Kp.drew _ _)⟩
/-- A cache while its ring is not yet whole: all but its ring and its map. -/
theorem Ca.rest {w w' : World} {q : Cq} {D : Dv} {Q : Nat → ByteArray} {M cm : Int} {L : List Nat} {N : Nat → Int} {T : Nat → ByteArray} {h mi : Int} {S : Nat → Prop} (H : Ca w q D Q M cm L N T h mi) (hk : Kp S w w') (hS : ∀ k, q.p.mem k ∨ k = q.g → ¬ S k) :
    Rest w' q.p D q.n Q M ∧ Pag w' q.g q.p q.n cm (.slice none 0 0) [] :=
  ⟨H.hR.kept hk (fun k hm => hS k (.inl hm)), ⟨hk.cell H.hP.c0 (hS _ (.inr rfl)), hk.cell H.hP.c1 (hS _ (.inr rfl)), hk.cell H.hP.c2 (hS _ (.inr rfl)), hk.cell H.hP.c3 (hS _ (.inr rfl)), fun j => by rw [hk.frozen H.hP.lt (hS _ (.inr rfl))]; exact H.hP.fr j, Chs.nil _ _, H.hP.gp⟩⟩
/-- The links and the cache's own block lie apart from the pager. -/
theorem Ca.apart {w : World} {q : Cq} {D : Dv} {Q : Nat → ByteArray} {M cm : Int} {L : List Nat} {N : Nat → Int} {T : Nat → ByteArray} {h mi : Int} (H : Ca w q D Q M cm L N T h mi) (k : Nat) (hk : q.p.mem k ∨ k = q.g) : k ≠ q.c ∧ k ≠ q.m ∧ k ∉ q.s :: L := by
  rcases hk with e | e
  · exact H.s1 k e
  · rw [e]; exact H.s2
set_option maxRecDepth 100000 in
set_option maxHeartbeats 800000 in
theorem hit_any {w : World} {q : Cq} {D : Dv} {Q : Nat → ByteArray} {M cm : Int} {p r : List Nat} {x : Nat} {N : Nat → Int} {T : Nat → ByteArray} {h mi : Int} (H : Ca w q D Q M cm (p ++ x :: r) N T h mi) (h0 : 0 ≤ h) (h1 : h ≤ 1000000000) :
    Calls Try.prog 21 #[.pointer (some ⟨q.c, 0, none⟩), .pointer (some ⟨x, 0, none⟩)] w fun e w' => e = .returned (.string (T x)) ∧ Ca w' q D Q M cm (x :: (p ++ r)) N T (h + 1) mi ∧ Kp (q.foot (p ++ x :: r)) w w' := by
  obtain ⟨ah, be, hr⟩ := H.rg
  have hcu := catchUp_any q.c q.g cm w H.cc.c0 H.cc.c6 H.hP.c2
  have hc : q.c ∉ q.s :: (p ++ x :: r) := H.s3.2
  have hw : wrap64 (h + 1) = h + 1 := by unfold wrap64; omega
  go_enter Try.func21, Try.ntmps21
  go_upto_region 2 with (first
    | (go_at_call 29; refine hcu.mono ?_; rintro e w1 ⟨rfl, hk1⟩)
    | fail)
  have C1 := H.cc.kept hk1 (fun h => h)
  have c4 := C1.c4
  have f4 := C1.cf 4
  have p4 := Put.set w1 q.c 4 (.int .i64 (h + 1)) _ c4
  have C2 := C1.put4 p4
  have hk2 : Kp (only q.c) w (w1.setCell ⟨q.c, 4, none⟩ (.int .i64 (h + 1))) := hk1.nThen p4.kp
  have hr2 := hr.kept hk2 (fun y hy e => hc (by rw [show y = q.c from e] at hy; exact hy))
  obtain ⟨W2, HW2⟩ : ∃ W2, Hid (w1.setCell ⟨q.c, 4, none⟩ (.int .i64 (h + 1)) = W2) := ⟨_, rfl⟩
  rw [HW2.out] at C2 hk2 hr2
  have hle := leave_ring hr2
  go_upto_region 4 with (first
    | (rw [HW2.out]; go_at_call 30; refine hle.mono ?_; rintro e w3 ⟨rfl, ah3, be3, hr3, hx3, hk3, _⟩)
    | fail)
  have sub3 : ∀ k, k ∈ q.s :: (p ++ r) → k ∈ q.s :: (p ++ x :: r) := fun k hk => by
    simp only [List.mem_cons, List.mem_append] at hk ⊢
    rcases hk with e | e | e
    · exact .inl e
    · exact .inr (.inl e)
    · exact .inr (.inr (.inr e))
  have hnx : x ∉ q.s :: (p ++ r) := by
    intro hz
    have hn := hr.nd
    simp only [List.nodup_cons, List.nodup_append, List.mem_append, List.mem_cons] at hn hz
    rcases hz with e | e | e
    · exact hn.1 (.inr (.inl e.symm))
    · exact hn.2.2.2 x e x (.inl rfl) rfl
    · exact hn.2.2.1.1 e
  have C3 := C2.kept hk3 (fun hm => hc (sub3 _ hm))
  have hjo := join_ring hr3 hx3 hnx
  have d2 := C3.c2
  go_upto_region 5 with (first
    | (go_at_call 31; refine hjo.mono ?_; rintro e w5 ⟨rfl, ah5, be5, hr5, hk5⟩)
    | fail)
  have sub5 : ∀ k, k ∈ q.s :: x :: (p ++ r) → k ∈ q.s :: (p ++ x :: r) := fun k hk => by
    simp only [List.mem_cons, List.mem_append] at hk ⊢
    rcases hk with e | e | e | e
    · exact .inl e
    · exact .inr (.inr (.inl e))
    · exact .inr (.inl e)
    · exact .inr (.inr (.inr e))
  have sub6 : ∀ k, k ∈ q.s :: (p ++ x :: r) → k ∈ q.s :: x :: (p ++ r) := fun k hk => by
    simp only [List.mem_cons, List.mem_append] at hk ⊢
    rcases hk with e | e | e | e
    · exact .inl e
    · exact .inr (.inr (.inl e))
    · exact .inr (.inl e)
    · exact .inr (.inr (.inr e))
  have C5 := C3.kept hk5 (fun hm => hc (sub5 _ hm))
  have d1 := (hr5.rm x (by simp)).c1
  have K5 : Kp (fun k => k = q.c ∨ k ∈ q.s :: (p ++ x :: r)) w w5 := ((hk2.mono (fun k _ e => .inl e)).then (hk3.mono (fun k _ e => .inr (sub3 k e)))).then (hk5.mono (fun k _ e => .inr (sub5 k e)))
  have hne : ∀ k, q.p.mem k ∨ k = q.g → ¬ (k = q.c ∨ k ∈ q.s :: (p ++ x :: r)) := fun k hk e => by
    have := H.apart k hk
    rcases e with e | e
    · exact this.1 e
    · exact this.2.2 e
  have hRP := H.rest K5 hne
  have hm5 : Mc w5 q.m (p ++ x :: r) N := H.mc.kept K5 (fun e => by
    rcases e with e | e
    · exact H.s3.1 e.symm
    · exact H.s4 e)
  have hperm : ∀ y, y ∈ x :: (p ++ r) ↔ y ∈ p ++ x :: r := fun y => by simp only [List.mem_cons, List.mem_append]; exact ⟨fun h => by rcases h with h | h | h; exact .inr (.inl h); exact .inl h; exact .inr (.inr h), fun h => by rcases h with h | h | h; exact .inr (.inl h); exact .inl h; exact .inr (.inr h)⟩
  have hnd : ((x :: (p ++ r)).map N).Nodup := by
    have := H.nd
    rw [List.map_append, List.map_cons] at this
    rw [List.map_cons, List.map_append]
    exact (List.perm_middle.nodup_iff).1 this
  have hfin : Ca w5 q D Q M cm (x :: (p ++ r)) N T (h + 1) mi := ⟨hRP.1, H.st, hRP.2, C5, ⟨ah5, be5, hr5⟩, hm5.perm hperm, hnd, fun y hy => H.da y ((hperm y).1 hy),
    fun k hk => ⟨(H.s1 k hk).1, (H.s1 k hk).2.1, fun hm => (H.s1 k hk).2.2 (sub5 k hm)⟩, ⟨H.s2.1, H.s2.2.1, fun hm => H.s2.2.2 (sub5 _ hm)⟩, ⟨H.s3.1, fun hm => H.s3.2 (sub5 _ hm)⟩, fun hm => H.s4 (sub5 _ hm), H.n2, H.hQ, H.sm⟩
  have HF := hide hfin
  have HK := hide K5
  clear hfin K5
  go_wp2
  go_ret
  exact ⟨rfl, HF.out, HK.out.mono (fun k _ e => by
    rcases e with e | e
    · exact .inr (.inr (.inl e))
    · exact .inr (.inr (.inr (.inr e))))⟩

end Go.Proofs.Ytcfhgfelmofgjaa
