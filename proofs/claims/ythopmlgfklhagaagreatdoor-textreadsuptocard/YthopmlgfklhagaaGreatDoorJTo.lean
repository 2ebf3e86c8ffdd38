/- Contract, over the turned program: layer 14's lives answers true. Condition: the variables lie as the program's text lays them. -/
import Derived.Test.YthopmlgfklhagaaGreatDoorJTn
namespace Go.Proofs.YthopmlgfklhagaaGreatDoor
open Go.RowKit
set_option linter.unusedVariables false

def s14 : List UInt8 := [99, 111, 110, 115, 116, 32, 50, 32, 39, 54, 56, 54, 57, 10, 10, 32, 32, 115, 116, 101, 112]
def x14 : In := ⟨1, 2, 0, 0, ⟨2, 0, mkB [104, 105]⟩⟩
def y14 : In := ⟨17, 0, 0, 0, zV⟩
def l14 : List In := [x14, y14]
theorem itoa2 : Lib.itoa 2 = [50] := by
  unfold Lib.itoa
  rw [if_neg (by omega), dec_small (by decide)]
  rfl
theorem x14_ok : okI x14 = true := by
  have h : okC ⟨2, 0, mkB [104, 105]⟩ = true := by unfold okC; rw [(okV_iff _).2 (.inr ⟨rfl, rfl⟩), mkB_size]; rfl
  unfold okI x14
  dsimp only
  rw [if_pos rfl, h]
  decide
theorem y14_ok : okI y14 = true := by
  unfold okI y14
  dsimp only
  rw [if_neg (by decide), (zeroB_iff _).2 rfl]
  decide
theorem l14_wf : ∀ x ∈ l14, x.wf := by
  intro x hx
  simp only [l14, x14, y14, List.mem_cons, List.not_mem_nil, or_false] at hx
  rcases hx with rfl | rfl
  · exact ⟨⟨by decide, by decide, by decide⟩, ⟨by decide, by decide⟩, ⟨by decide, by decide⟩, ⟨by decide, by decide⟩, ⟨by decide, by decide⟩⟩
  · exact ⟨zV_wf, ⟨by decide, by decide⟩, ⟨by decide, by decide⟩, ⟨by decide, by decide⟩, ⟨by decide, by decide⟩⟩
theorem x14_words : wordsI x14 = [[99, 111, 110, 115, 116], [50], [39, 54, 56, 54, 57]] := by
  show nameB 1 :: (opsW (nOps 1) x14 ++ [valW ⟨2, 0, mkB [104, 105]⟩]) = _
  rw [nOps1]
  show nameB 1 :: ([Lib.itoa 2] ++ [39 :: hexL (mkB [104, 105]).data.toList]) = _
  rw [itoa2, mkB_list]
  decide
theorem y14_words : wordsI y14 = [[115, 116, 101, 112]] := by decide
theorem l14_text : textP l14 = [99, 111, 110, 115, 116, 32, 50, 32, 39, 54, 56, 54, 57, 10, 115, 116, 101, 112, 10] := by
  show textP [x14, y14] = _
  rw [textP_cons, textP_cons]
  unfold lineI
  rw [x14_words, y14_words]
  decide
theorem s14_read : rdT 64 0 (splitC 10 s14) = .ok l14 := by
  have e : splitC 10 s14 = [[99, 111, 110, 115, 116, 32, 50, 32, 39, 54, 56, 54, 57], [], [32, 32, 115, 116, 101, 112]] := by decide
  have w1 : wordsL [99, 111, 110, 115, 116, 32, 50, 32, 39, 54, 56, 54, 57] = wordsI x14 := by rw [x14_words]; decide
  have w3 : wordsL [32, 32, 115, 116, 101, 112] = wordsI y14 := by rw [y14_words]; decide
  have hx := instU_words x14 (l14_wf x14 (by simp [l14])) x14_ok
  have hy := instU_words y14 (l14_wf y14 (by simp [l14])) y14_ok
  rw [e, rdT_ok 63 0 _ _ (by rw [w1, x14_words]; rfl) x14 (by rw [w1]; exact hx), rdT_none 63 _ _ _ (by decide), rdT_ok 62 _ _ _ (by rw [w3, y14_words]; rfl) y14 (by rw [w3]; exact hy)]
  rfl
theorem l14_wi : wiE l14 = 0 ∧ wtB l14 = [99, 111, 110, 115, 116, 32, 50, 32, 39, 54, 56, 54, 57, 10, 115, 116, 101, 112, 10] := by
  have h : wiOk l14 = true := by
    unfold wiOk l14
    rw [List.all_cons, List.all_cons, x14_ok, y14_ok]
    decide
  refine ⟨(wiE_ok l14).2 h, ?_⟩
  unfold wtB
  rw [h, if_pos rfl, l14_text]
theorem nm19 : mkB (nameB 19) = ⟨#[102, 97, 105, 108]⟩ := by decide

set_option maxRecDepth 100000 in
set_option maxHeartbeats 1000000 in
theorem tlives_any (w : World) (hG : G14 w) :
    Calls Tryz.prog 4 #[] w fun e w' => e = .returned (.bool true) ∧ w.grownBy w' none := by
  have Hrd : Hid (Calls Tryz.prog 5 #[.string ⟨#[99, 111, 110, 115, 116, 32, 50, 32, 39, 54, 56, 54, 57, 10, 10, 32, 32, 115, 116, 101, 112]⟩] w fun e w' => ∃ g c, e = .returned (.tuple #[.slice (some ⟨g, 0, none⟩) 2 c, .int .i64 0, .int .i64 0]) ∧ Ins w' (.slice (some ⟨g, 0, none⟩) 2 c) l14 ∧ w'.cell? ⟨g, 6, none⟩ = some (.string ⟨#[104, 105]⟩) ∧ w.grownBy w' none) := by
    refine (tread_any s14 w (by decide) hG).mono ?_
    rintro e w' ⟨v, rfl, hO, hg⟩
    rw [s14_read] at hO ⊢
    have hO2 : OwnI w' w.heap.size v l14 := hO
    have hI := hO2.ins
    have hr : w'.ownsRow w.heap.size 35 7 v (1 + 1) (ics l14) := hO2
    obtain ⟨g, c, rfl⟩ := ownsRow_succ hr
    refine ⟨g, c, rfl, hI, ?_, hg⟩
    obtain ⟨a, c', e, _, _, hL⟩ := hI
    obtain ⟨b, off, e2, _, hc⟩ := hL 0 (by decide)
    cases e
    cases e2
    have h6 : w'.cell? ⟨g, 0 + 0 * 7 + 6, none⟩ = some (.string ⟨#[104, 105]⟩) := hc 6 _ rfl
    simpa using h6
  have Hwr : Hid (∀ W v, Ins W v l14 → G14 W → Calls Tryz.prog 8 #[v] W fun e w' => e = .returned (.tuple #[.string ⟨#[99, 111, 110, 115, 116, 32, 50, 32, 39, 54, 56, 54, 57, 10, 115, 116, 101, 112, 10]⟩, .int .i64 0]) ∧ W.grownBy w' none) := by
    intro W v hI hg
    have h := twrite_any v l14 W hI l14_wf hg
    rw [l14_wi.1, l14_wi.2] at h
    exact h
  have Hnm : Hid (∀ W, G14 W → Calls Tryz.prog 9 #[.int .i64 19] W fun e w' => e = .returned (.string ⟨#[102, 97, 105, 108]⟩) ∧ w' = W) := by
    intro W hg
    rw [← nm19]
    exact tname_any 19 W (by omega) (by omega) hg
  have HG := hide hG
  clear hG
  go_enter Tryz.func4, Tryz.ntmps4
  go_wp2_with (first
    | (go_at_call 5; refine (Hrd.out).mono ?_; rintro e w1 ⟨g, c, rfl, hI, hc6, hg1⟩; have hlt := lt_of_cell hc6)
    | (go_at_call 8; refine (Hwr.out _ _ hI (HG.out.keptN hg1)).mono ?_; rintro e w2 ⟨rfl, hg2⟩; have hc62 := (cell_same (hg2.block g hlt (by simp)) 6).trans hc6; have hG2 := HG.out.keptN (grown_up hg1 hg2))
    | (go_at_call 9; refine (Hnm.out _ hG2).mono ?_; rintro e w3 ⟨rfl, rfl⟩))
  go_ret
  exact ⟨rfl, grown_up hg1 hg2⟩

end Go.Proofs.YthopmlgfklhagaaGreatDoor
