/- Contracts, over the turned program: a box in memory; its mark, its last number, how many it has; a new one; one that isn't there; messages that are copied; what is left behind the first ones. Conditions: those that each theorem states. -/
import Derived.Test.YtamgnpmkmlhadaaOWrt
import Derived.Test.YtamgnpmkmlhadaaYApp
namespace Go.Proofs.Ytamgnpmkmlhadaa
open Go Go.RowKit
set_option linter.unusedVariables false

/-- A box: its block, its row. -/
structure Bx (w : World) (p : Nat) (v : Value) (g : Option Nat) (a : Nat) (l : List Ms) : Prop where
  hp : w.heap[p]? = some (.cells #[.int .i64 a, v] 73 (0, 0))
  ow : OwO w v l g
  ne : ∀ b, g = some b → b ≠ p
  rw : Rw9 a l
  sm : a + l.length ≤ 1000
/-- What a box may turn. -/
def Ft (p : Nat) (g : Option Nat) (k : Nat) : Prop := k = p ∨ g = some k
section
variable {w w' : World} {p : Nat} {v : Value} {g : Option Nat} {a : Nat} {l : List Ms}
theorem Bx.lt (h : Bx w p v g a l) : p < w.heap.size := (Array.getElem?_eq_some_iff.1 h.hp).1
theorem Bx.ltF (h : Bx w p v g a l) : ∀ k, Ft p g k → k < w.heap.size := fun k hk => by
  rcases hk with rfl | hk
  · exact h.lt
  · exact h.ow.lt k hk
theorem Bx.kept {S : Nat → Prop} (h : Bx w p v g a l) (hk : Kp S w w') (hS : ∀ k, Ft p g k → ¬ S k) : Bx w' p v g a l :=
  ⟨by rw [hk.block p h.lt (hS p (.inl rfl))]; exact h.hp, h.ow.kept hk (fun b hb => hS b (.inr hb)), h.ne, h.rw, h.sm⟩
theorem Bx.keptN (h : Bx w p v g a l) (hk : Kp none' w w') : Bx w' p v g a l := h.kept hk (fun _ _ h => h)
theorem Bx.c0 (h : Bx w p v g a l) : w.cell? ⟨p, 0, none⟩ = some (.int .i64 a) := by rw [cell_of_row w p 0 _ 73 (0, 0) h.hp]; rfl
theorem Bx.c1 (h : Bx w p v g a l) : w.cell? ⟨p, 1, none⟩ = some v := by rw [cell_of_row w p 1 _ 73 (0, 0) h.hp]; rfl
theorem Bx.fz (h : Bx w p v g a l) (j : Nat) : w.frozen? ⟨p, j, none⟩ = false := by
  unfold World.frozen?
  rw [show w.heap[(⟨p, j, none⟩ : Addr).block]? = _ from h.hp]
  simp
end

set_option maxRecDepth 100000 in
theorem omark_any {p : Nat} {v : Value} {g : Option Nat} {a : Nat} {l : List Ms} (w : World) (h : Bx w p v g a l) : Calls Try.prog 23 #[.pointer (some ⟨p, 0, none⟩)] w fun e w' => e = .returned (.int .i64 (a : Int)) ∧ w' = w := by
  have c0 := h.c0
  go_enter Try.func23, Try.ntmps23
  go_wp2
  go_ret
  exact ⟨rfl, rfl⟩
set_option maxRecDepth 100000 in
theorem olen_any {p : Nat} {v : Value} {g : Option Nat} {a : Nat} {l : List Ms} (w : World) (h : Bx w p v g a l) : Calls Try.prog 25 #[.pointer (some ⟨p, 0, none⟩)] w fun e w' => e = .returned (.int .i64 (l.length : Int)) ∧ w' = w := by
  have c1 := h.c1
  obtain ⟨a', c', rfl, _, _⟩ := h.ow.len
  clear h
  go_enter Try.func25, Try.ntmps25
  go_wp2
  go_ret
  exact ⟨rfl, rfl⟩
set_option maxRecDepth 100000 in
theorem olast_any {p : Nat} {v : Value} {g : Option Nat} {a : Nat} {l : List Ms} (w : World) (h : Bx w p v g a l) : Calls Try.prog 24 #[.pointer (some ⟨p, 0, none⟩)] w fun e w' => e = .returned (.int .i64 ((a : Int) + (l.length : Int))) ∧ w' = w := by
  have hm := hide (omark_any w h)
  have hl := hide (olen_any w h)
  have hs := h.sm
  clear h
  go_enter Try.func24, Try.ntmps24
  go_wp2_with (first
    | (go_at_call 23; refine hm.out.mono ?_; rintro e w1 ⟨rfl, rfl⟩)
    | (go_at_call 25; refine hl.out.mono ?_; rintro e w1 ⟨rfl, rfl⟩))
  go_ret
  exact ⟨rfl, rfl⟩
theorem Bx.new (w : World) : Bx (w.alloc (.cells #[.int .i64 0, .slice none 0 0] 73)) w.heap.size (.slice none 0 0) none 0 [] :=
  ⟨heap_alloc_new w _, OwO.nil _, fun b hb => (by cases hb), Rw9.nil 0, by decide⟩
set_option maxRecDepth 100000 in
theorem onew_any (w : World) : Calls Try.prog 14 #[] w fun e w' => e = .returned (.pointer (some ⟨w.heap.size, 0, none⟩)) ∧ w' = w.alloc (.cells #[.int .i64 0, .slice none 0 0] 73) := by
  go_enter Try.func14, Try.ntmps14
  go_wp2
  go_ret
  exact ⟨rfl, rfl⟩

set_option maxRecDepth 100000 in
theorem onil_mark (w : World) : Calls Try.prog 23 #[.pointer none] w fun e w' => e = .returned (.int .i64 0) ∧ w' = w := by
  go_enter Try.func23, Try.ntmps23
  go_wp2
  go_ret
  exact ⟨rfl, rfl⟩
set_option maxRecDepth 100000 in
theorem onil_len (w : World) : Calls Try.prog 25 #[.pointer none] w fun e w' => e = .returned (.int .i64 0) ∧ w' = w := by
  go_enter Try.func25, Try.ntmps25
  go_wp2
  go_ret
  exact ⟨rfl, rfl⟩
set_option maxRecDepth 100000 in
theorem onil_last (w : World) : Calls Try.prog 24 #[.pointer none] w fun e w' => e = .returned (.int .i64 0) ∧ w' = w := by
  have hm := hide (onil_mark w)
  have hl := hide (onil_len w)
  go_enter Try.func24, Try.ntmps24
  go_wp2_with (first
    | (go_at_call 23; refine hm.out.mono ?_; rintro e w1 ⟨rfl, rfl⟩)
    | (go_at_call 25; refine hl.out.mono ?_; rintro e w1 ⟨rfl, rfl⟩))
  go_ret
  exact ⟨rfl, rfl⟩
set_option maxRecDepth 100000 in
theorem onil_ack (n : Int) (w : World) : Calls Try.prog 18 #[.pointer none, .int .i64 n] w fun e w' => e = .returned (.int .i64 1) ∧ w' = w := by
  go_enter Try.func18, Try.ntmps18
  go_wp2
  go_ret
  exact ⟨rfl, rfl⟩
set_option maxRecDepth 100000 in
theorem onil_add (f t : Int) (x : V) (w : World) : Calls Try.prog 16 #[.pointer none, .int .i64 f, .int .i64 t, x.val] w fun e w' => e = .returned (.tuple #[.int .i64 0, .int .i64 1]) ∧ Kp none' w w' := by
  unfold V.val
  go_enter Try.func16, Try.ntmps16
  go_wp2
  go_ret2
  exact ⟨rfl, Kp.alloc _ _ _⟩
set_option maxRecDepth 100000 in
set_option maxHeartbeats 400000 in
theorem onil_from (z n : Int) (w : World) (hz : ir z) : Calls Try.prog 21 #[.pointer none, .int .i64 z, .int .i64 n] w fun e w' => e = .returned (.slice none 0 0) ∧ w' = w := by
  have hm := hide (onil_mark w)
  have hl := hide (onil_len w)
  unfold ir at hz
  go_enter Try.func21, Try.ntmps21
  by_cases h0 : 0 ≤ z
  · go_wp2_with (first
      | (go_at_call 23; refine hm.out.mono ?_; rintro e w1 ⟨rfl, rfl⟩)
      | (go_at_call 25; refine hl.out.mono ?_; rintro e w1 ⟨rfl, rfl⟩))
    go_ret
    exact ⟨rfl, rfl⟩
  · go_wp2_with (first
      | (go_at_call 23; refine hm.out.mono ?_; rintro e w1 ⟨rfl, rfl⟩)
      | (go_at_call 25; refine hl.out.mono ?_; rintro e w1 ⟨rfl, rfl⟩))
    go_ret
    exact ⟨rfl, rfl⟩

def CloneM (w : World) (l : List Ms) (e : Ending) (w' : World) : Prop := ∃ u, e = .returned u ∧ OwM w' w.heap.size u l
set_option maxRecDepth 100000 in
set_option maxHeartbeats 600000 in
theorem oclone_any (b off : Nat) (c : Nat) (l : List Ms) (w : World) (hI : RwM w (.slice (some ⟨b, off, none⟩) l.length c) l) (hl : l.length ≤ 1000000) :
    Calls Try.prog 39 #[.slice (some ⟨b, off, none⟩) l.length c] w fun e w' => CloneM w l e w' ∧ w.grownBy w' none := by
  have hq : ∀ W : World, (binOp .eql 39 (.slice (some ⟨b, off, none⟩) l.length c) (.slice none 0 0)).run Try.prog W = .ok (.bool false) W := fun W => Lib.run_eql_slice_nil W _ _ (some ⟨b, off, none⟩) l.length c 0 0 Try.underlying39
  have hga := World.grownBy_alloc w (.cells #[] 26) none
  have hO : OwM (w.alloc (.cells #[] 26)) w.heap.size (.slice (some ⟨w.heap.size, 0, none⟩) 0 0) [] := World.ownsRow_made w #[] 0 (Nat.le_refl _) (Nat.zero_le _) (by simp)
  obtain ⟨v2, w2, hq2, hO2, hg2, hv2⟩ := appM (w.alloc (.cells #[] 26)) w.heap.size _ _ [] l hO (hI.keptN hga) hga.size (by simp; omega)
  rw [List.nil_append] at hO2
  have hk2 : w.grownBy w2 none := grown_new hga hg2 (fun j e => by cases e; exact Nat.le_refl _)
  have HO := hide hO2
  clear hO2 hO hI hv2 hg2 hga
  obtain ⟨n, Hn⟩ : ∃ n, Hid (l.length = n) := ⟨_, rfl⟩
  rw [Hn.out] at hq hq2 ⊢
  go_enter Try.func39, Try.ntmps39
  go_wp2_with (at_builtin; refine wpList_app_at rfl (.tmp 5) (.tmp 6) 39 39 rfl _ _ rfl rfl hq2 ?_)
  go_ret
  exact ⟨⟨_, rfl, HO.out⟩, hk2⟩

end Go.Proofs.Ytamgnpmkmlhadaa
