/- The walk of TextBack, over instructions and the variables as they lie in memory. -/
import Derived.Test.YtihfnnabafnmlaaDoorJTo
import Derived.Test.YtihfnnabafnmlaaDoorISame
namespace Go.Proofs.YtihfnnabafnmlaaDoor.textBack
open Go.RowKit
set_option linter.unusedVariables false

set_option maxRecDepth 100000 in
set_option maxHeartbeats 2000000 in
theorem walk (v : Value) (l : List In) (W : World) (hT : Ins W v l) (hwf : ∀ x ∈ l, x.wf) (hG : G14 W) :
    Calls Tryd.prog 3 #[v] W fun e W' => e = .returned (.bool true) ∧ W.grownBy W' none := by
  have Hok := hide (wiE_ok l)
  obtain ⟨E, HE⟩ : ∃ E, Hid (wiE l = E) := ⟨_, rfl⟩
  rw [HE.out] at Hok
  have HG := hide hG
  have HT := hide hT
  clear hG hT
  by_cases h0 : E = 0
  · have hk := Hok.out.1 h0
    have hk2 : l.length ≤ 64 ∧ l.all okI = true := by
      unfold wiOk at hk
      rw [Bool.and_eq_true] at hk
      exact ⟨of_decide_eq_true hk.1, hk.2⟩
    have HS : Hid ((⟨(wtB l).toArray⟩ : ByteArray) = mkB (textP l)) := by show _ = _; unfold wtB; rw [hk, if_pos rfl]; rfl
    have Hlen : Hid ((textP l).length ≤ 1099511627776) := by
      have := textP_len l hwf hk2.2
      show _ ≤ _
      omega
    have HR : Hid (rdT 64 0 (splitC 10 (textP l)) = .ok l) := by show _ = _; rw [split_text l hk2.2]; exact rdT_back l 64 0 hwf hk2.2 hk2.1
    have Hrd : Hid (∀ W0, G14 W0 → Calls Tryd.prog 8 #[.string (mkB (textP l))] W0 fun e w' => ∃ v, e = .returned (.tuple #[v, .int .i64 0, .int .i64 0]) ∧ Ins w' v l ∧ W0.grownBy w' none) := by
      intro W0 hg
      refine (tread_any (textP l) W0 Hlen.out hg).mono ?_
      rintro e w' ⟨v, rfl, hO, hg⟩
      rw [HR.out] at hO ⊢
      have hO2 : OwnI w' W0.heap.size v l := hO
      exact ⟨v, rfl, hO2.ins, hg⟩
    have hS := sameI_self l
    obtain ⟨A, HA⟩ : ∃ A : ByteArray, Hid (mkB (textP l) = A) := ⟨_, rfl⟩
    rw [HA.out] at HS Hrd
    clear hk hk2
    subst h0
    go_enter Tryd.func3, Tryd.ntmps3
    go_wp2_with (first
      | (go_at_call 6; refine (tlives_any _ HG.out).mono ?_; rintro e w1 ⟨rfl, hg1⟩)
      | (go_at_call 7; refine (twrite_any _ l _ (HT.out.keptN hg1) hwf (HG.out.keptN hg1)).mono ?_; rintro e w2 ⟨rfl, hg2⟩; rw [HS.out, HE.out]; have hg3 := grown_up hg1 hg2)
      | (go_at_call 8; refine (Hrd.out _ (HG.out.keptN hg3)).mono ?_; rintro e w3 ⟨v3, rfl, hI, hg4⟩)
      | (go_at_call 9; refine (rsame13_any _ _ _ _ _ hI ((HT.out.keptN hg3).keptN hg4)).mono ?_; rintro e w4 ⟨rfl, hg5⟩; rw [hS]))
    go_ret
    exact ⟨rfl, grown_up (grown_up hg3 hg4) hg5⟩
  · have HS : Hid ((⟨(wtB l).toArray⟩ : ByteArray) = ⟨#[]⟩) := by
      show _ = _
      unfold wtB
      rw [if_neg (fun h => h0 (Hok.out.2 h))]
    have h0' : (E != 0) = true := by simpa using h0
    clear h0
    go_enter Tryd.func3, Tryd.ntmps3
    go_wp2_with (first
      | (go_at_call 6; refine (tlives_any _ HG.out).mono ?_; rintro e w1 ⟨rfl, hg1⟩)
      | (go_at_call 7; refine (twrite_any _ l _ (HT.out.keptN hg1) hwf (HG.out.keptN hg1)).mono ?_; rintro e w2 ⟨rfl, hg2⟩; rw [HS.out, HE.out]; have hg3 := grown_up hg1 hg2))
    go_ret
    exact ⟨rfl, hg3⟩

end Go.Proofs.YtihfnnabafnmlaaDoor.textBack
