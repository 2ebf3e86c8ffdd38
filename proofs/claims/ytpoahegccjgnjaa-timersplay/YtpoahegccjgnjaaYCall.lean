/- container/heap's Fix, Push, Pop and Remove over those who wait. Conditions: those that each theorem states. -/
import Derived.Test.YtpoahegccjgnjaaYHeap
import Derived.Test.YtpoahegccjgnjaaJB
namespace Go.Proofs.Ytpoahegccjgnjaa
open Go Go.RowKit
set_option linter.unusedVariables false
set_option maxRecDepth 100000 in
set_option maxHeartbeats 400000 in
theorem fix_any (p : Nat) (v : Value) (H : List Tm) (i : Nat) (w : World) (h : Wq w p v H) (hi : i < H.length) (hf : FixOk H H.length i) :
    Calls Try.prog 22 #[wqI p, .int .i64 i] w fun e w' => e = .returned (.tuple #[]) ∧ ∃ H', H'.Perm H ∧ Hp H' H'.length ∧ Wq w' p v H' ∧ Kp (Ft v H) w w' := by
  have hl := h.ws.len
  have ml := m_len (p := p) h.c
  have HD := hide (down_any p v H H.length i w h (Nat.le_refl _) (by omega) hf)
  have HW := hide (wlen_any v H w h.ws)
  have HU := hide (fun w1 (h1 : Wq w1 p v H) hU => up_any p v H H.length i w1 h1 (Nat.le_refl _) hi hU)
  unfold wqI at *
  go_enter Try.func22, Try.ntmps22
  go_wp2_with (first
    | (go_at_call 45; refine HW.out.mono ?_; clear HW; rintro e w0 ⟨rfl, rfl⟩)
    | (go_at_call 26; refine HD.out.mono ?_; clear HD; rintro e w1 ⟨b, H', rfl, hp, ho, hq, hk, hS⟩))
  · rcases hS with ⟨rfl, hP⟩ | ⟨rfl, rfl, hU⟩
    · simp_all
    · refine (HU.out w1 hq hU).mono ?_
      rintro e w2 ⟨rfl, H2, hp2, hP2, ho2, hq2, hk2⟩
      go_wp2
      go_end0
      exact ⟨rfl, H2, hp2, by rw [hp2.length_eq]; exact hP2, hq2, hk.then hk2⟩
  · go_end0
    rcases hS with ⟨rfl, hP⟩ | ⟨rfl, rfl, hU⟩
    · exact ⟨rfl, H', hp, by rw [hp.length_eq]; exact hP, hq, hk⟩
    · simp_all
theorem infoT : (Try.prog.info? 56).map (fun i => (i.zero, i.size, i.bytes)) = some (some (.pointer none), 1, 8) := by kernel_rfl
theorem app_tm (w : World) (v : Value) (l : List Tm) (y : Tm) (hO : Ow ptV 56 w 0 v l) (hl : l.length ≤ 1000000) :
    ∃ v' w', (Builtin.append_ #[52, 52] 52 #[v, .slice (some ⟨w.heap.size, 0, none⟩) 1 1]).run Try.prog (w.alloc (.cells #[.pointer (some ⟨y.b, 0, none⟩)] 56)) = .ok v' w' ∧ Ow ptV 56 w' 0 v' (l ++ [y]) ∧ (w.alloc (.cells #[.pointer (some ⟨y.b, 0, none⟩)] 56)).grownBy w' v.ownBlock ∧ (v'.ownBlock = v.ownBlock ∨ v'.ownBlock = some (w.heap.size + 1)) := by
  obtain ⟨i0, hi, hz0, hz1, hz2⟩ := info_parts infoT
  have hO' : Ow ptV 56 (w.alloc (.cells #[.pointer (some ⟨y.b, 0, none⟩)] 56)) 0 v l := hO.keptN (Kp.alloc none' _ _)
  obtain ⟨v', w', h1, h2, h3, h4⟩ := run_append_own_row (P := Try.prog) _ 0 52 52 52 56 i0 _ 1 8 Try.underlying52 hi hz0 (by rfl) hz1 hz2 v l.length (l.map ptV) hO' _ 1 [.pointer (some ⟨y.b, 0, none⟩)] (src_cell w 52 56 Try.underlying52 (.pointer (some ⟨y.b, 0, none⟩)) rfl w.heap.size rfl) (by omega) (by omega) (by unfold maxLen; omega) (Nat.zero_le _)
  refine ⟨v', w', h1, ?_, h3, by rw [World.size_alloc] at h4; exact h4⟩
  unfold Ow
  rw [List.length_append, List.map_append]
  exact h2

/-- The other cells of block p stand. -/
def Kc (p : Nat) (w w' : World) : Prop := ∀ o, o ≠ 0 → w'.cell? ⟨p, o, none⟩ = w.cell? ⟨p, o, none⟩
theorem Kc.ofKp {p : Nat} {S : Nat → Prop} {w w' : World} (h : Kp S w w') (hp : ¬ S p) (hl : p < w.heap.size) : Kc p w w' := fun o _ => World.cell?_of_block (w := w) (h.block p hl hp)
theorem Kc.trans {p : Nat} {w w1 w2 : World} (h : Kc p w w1) (h' : Kc p w1 w2) : Kc p w w2 := fun o ho => (h' o ho).trans (h o ho)
theorem Kc.set (p : Nat) (w : World) (u : Value) : Kc p w (w.setCell ⟨p, 0, none⟩ u) := fun o ho => World.cell?_setCell_other _ _ _ _ (fun e => ho (by cases e; rfl))

end Go.Proofs.Ytpoahegccjgnjaa
