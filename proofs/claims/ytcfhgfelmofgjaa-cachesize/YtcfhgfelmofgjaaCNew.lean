/- Contracts, over the turned program: a cache that is new; the laws' opened. Conditions: those that each theorem states. -/
import Derived.Test.YtcfhgfelmofgjaaCKept
namespace Go.Proofs.Ytcfhgfelmofgjaa
open Go.RowKit
open Go.ChangeMaps (setBlock)
set_option linter.unusedVariables false

set_option maxRecDepth 100000 in
set_option maxHeartbeats 400000 in
theorem cnew_nil (z : Int) (w : World) : Calls Try.prog 7 #[.pointer none, .int .i64 z] w fun e w' => e = .returned (.pointer none) ∧ w' = w := by
  go_enter Try.func7, Try.ntmps7
  go_wp2
  go_ret
  exact ⟨rfl, rfl⟩
/-- How many pages may be kept. -/
def szN (z : Int) : Nat := (min (max z 0) 64).toNat
set_option maxRecDepth 100000 in
set_option maxHeartbeats 800000 in
theorem cnew_any {w : World} {p : Dp} {D : Dv} {n g : Nat} {Q : Nat → ByteArray} {M cm : Int} (z : Int) (hR : Rest w p D n Q M) (st : D.st = false) (hP : Pag w g p n cm (.slice none 0 0) []) (hn : n ≤ 160) (hQ : ∀ p, (Q p).size = 256) :
    Calls Try.prog 7 #[.pointer (some ⟨g, 0, none⟩), .int .i64 z] w fun e w' => ∃ q : Cq, e = .returned (.pointer (some ⟨q.c, 0, none⟩)) ∧ q.n = n ∧ q.sz = szN z ∧ q.p = p ∧ q.g = g ∧ Cas w' q (fun k => p.mem k ∨ k = g ∨ w.heap.size ≤ k) D Q M cm [] 0 0 ∧ Kp none' w w' := by
  have hne := newRing_any w
  have HSZ : Hid (min (max z 0) 64 = (szN z : Int)) := by show _ = _; unfold szN; omega
  have hcm : ∀ W : World, Kp none' w W → Calls Try.prog 16 #[.pointer (some ⟨g, 0, none⟩)] W fun e w' => e = .returned (.int .i64 cm) ∧ w' = W := fun W hW => pcommits_any g cm W (hW.cell hP.c2 (fun h => h))
  have HCM := hide hcm
  clear hcm
  have hmm := @run_makeMap Try.prog
  have hum := Try.underlying48
  go_enter Try.func7, Try.ntmps7
  go_wp2_with (first
    | (go_at_call 15; refine hne.mono ?_; rintro e w1 ⟨s, rfl, hs1, hr1, hk1⟩)
    | (go_at_call 16; refine (HCM.out _ (hk1.then (Kp.alloc none' w1 _))).mono ?_; rintro e w' ⟨rfl, rfl⟩)
    | fail)
  go_ret
  rw [HSZ.out]
  have k2 := Kp.alloc none' w1 (.map #[] 0)
  have hm2 : (w1.alloc (.map #[] 0)).heap[w1.heap.size]? = some (.map #[] 0) := heap_alloc_new w1 _
  have s2 : (w1.alloc (.map #[] 0)).heap.size = w1.heap.size + 1 := by simp
  obtain ⟨W2, H2⟩ : ∃ W2, Hid (w1.alloc (.map #[] 0) = W2) := ⟨_, rfl⟩
  rw [H2.out] at k2 hm2 s2 ⊢
  have cell := new_cell W2 #[.pointer (some ⟨g, 0, none⟩), .int .i64 (szN z : Int), .pointer (some ⟨s, 0, none⟩), .map (some w1.heap.size), .int .i64 0, .int .i64 0, .int .i64 cm] 50
  have froz := new_frozen W2 #[.pointer (some ⟨g, 0, none⟩), .int .i64 (szN z : Int), .pointer (some ⟨s, 0, none⟩), .map (some w1.heap.size), .int .i64 0, .int .i64 0, .int .i64 cm] 50
  have k3 := Kp.alloc none' W2 (.cells #[.pointer (some ⟨g, 0, none⟩), .int .i64 (szN z : Int), .pointer (some ⟨s, 0, none⟩), .map (some w1.heap.size), .int .i64 0, .int .i64 0, .int .i64 cm] 50)
  obtain ⟨W3, H3⟩ : ∃ W3, Hid (W2.alloc (.cells #[.pointer (some ⟨g, 0, none⟩), .int .i64 (szN z : Int), .pointer (some ⟨s, 0, none⟩), .map (some w1.heap.size), .int .i64 0, .int .i64 0, .int .i64 cm] 50) = W3) := ⟨_, rfl⟩
  rw [H3.out] at k3 cell froz ⊢
  rw [s2] at cell froz
  have kw := (hk1.then k2).then k3
  have k23 := k2.then k3
  have hs := (hr1.rm s (by simp)).lt
  have hpm := hR.hd.lt
  have hg := hP.lt
  have hsz := hk1.size
  have hR3 := hR.keptN kw
  have hP3 := hP.keptN kw
  have hr3 := hr1.kept k23 (fun _ _ h => h)
  have hm3 : W3.heap[w1.heap.size]? = some (.map #[] 0) := by rw [k3.block w1.heap.size (by omega) (fun h => h)]; exact hm2
  refine ⟨⟨w1.heap.size + 1, g, s, w1.heap.size, p, n, szN z⟩, rfl, rfl, rfl, rfl, rfl, ⟨[], fun _ => 0, fun _ => ⟨#[]⟩, ⟨hR3, st, hP3, ⟨cell 0 _ rfl, cell 1 _ rfl, cell 2 _ rfl, cell 3 _ rfl, cell 4 _ rfl, cell 5 _ rfl, cell 6 _ rfl, froz⟩, ⟨_, _, hr3⟩, ⟨#[], 0, fun _ => none, hm3, Mi.nil 0, fun z v => by simp⟩, by simp, by simp, ?_, ?_, ?_, ?_, hn, hQ, ?_⟩, rfl, Nat.zero_le _, ?_⟩, kw⟩
  · intro k hk
    have := hpm k hk
    refine ⟨?_, ?_, ?_⟩
    · show k ≠ w1.heap.size + 1; omega
    · show k ≠ w1.heap.size; omega
    · show k ∉ [s]; simp; omega
  · refine ⟨?_, ?_, ?_⟩
    · show g ≠ w1.heap.size + 1; omega
    · show g ≠ w1.heap.size; omega
    · show g ∉ [s]; simp; omega
  · refine ⟨?_, ?_⟩
    · show w1.heap.size + 1 ≠ w1.heap.size; omega
    · show w1.heap.size + 1 ∉ [s]; simp; omega
  · show w1.heap.size ∉ [s]; simp; omega
  · show szN z ≤ 64; unfold szN; omega
  · intro k hk
    rcases hk with e | e | e | e | e
    · exact .inl e
    · exact .inr (.inl e)
    · have e' : k = w1.heap.size + 1 := e
      exact .inr (.inr (by omega))
    · have e' : k = w1.heap.size := e
      exact .inr (.inr (by omega))
    · have e' : k = s := by simpa using e
      exact .inr (.inr (by omega))
set_option maxRecDepth 100000 in
set_option maxHeartbeats 800000 in
theorem opened_any (n : Nat) (w : World) (h1 : 1 ≤ n) (h2 : n ≤ 160) :
    Calls Try.prog 8 #[.int .i64 (n : Int)] w fun e w' => ∃ p D g, e = .returned (.pointer (some ⟨g, 0, none⟩)) ∧ Rest w' p D n (fun _ => fillB 0) 0 ∧ D.st = false ∧ Pag w' g p n 0 (.slice none 0 0) [] ∧ w.heap.size ≤ g ∧ (∀ k, p.mem k → w.heap.size ≤ k) ∧ Kp none' w w' := by
  have HW : Hid (wrap64 (126 + 4 * (n : Int)) = 126 + 4 * (n : Int)) := by show _ = _; unfold wrap64; omega
  have HO : Hid (∀ (w1 : World) (p : Dp), Dev w1 p (fresh (newN (126 + 4 * (n : Int)))) → Calls Try.prog 17 #[.pointer (some ⟨p.d, 0, none⟩), .int .i64 (n : Int)] w1 fun e w' => ∃ g, e = .returned (.tuple #[.pointer (some ⟨g, 0, none⟩), .int .i64 0]) ∧ Rest w' p (fresh (126 + 4 * n)) n (fun _ => fillB 0) 0 ∧ Pag w' g p n 0 (.slice none 0 0) [] ∧ w1.heap.size ≤ g ∧ Kp p.mem w1 w') := fun w1 p hD => rest_open (rest_new h2 hD) (by omega) h1 h2
  go_enter Try.func8, Try.ntmps8
  go_wp2_with (first
    | (go_at_call 19; refine (need_any _ _).mono ?_; rintro e w' ⟨rfl, rfl⟩; rw [HW.out])
    | (go_at_call 18; refine (new_any _ _).mono ?_; rintro e w1 ⟨p, rfl, hD1, hk1, hm1⟩)
    | (go_at_call 17; refine (HO.out w1 p hD1).mono ?_; rintro e w2 ⟨g, rfl, hR2, hP2, hg2, hk2⟩)
    | fail)
  go_ret
  exact ⟨p, _, g, rfl, hR2, rfl, hP2, Nat.le_trans hk1.size hg2, hm1, kpN hk1 hk2 hm1⟩

end Go.Proofs.Ytcfhgfelmofgjaa
