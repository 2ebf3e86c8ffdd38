/- Contracts, over the turned program: check.leads tells where an instruction goes on, the document's Registers which registers it names. Conditions: those that each theorem states. -/
import Derived.Test.YtnldjloiafilmaaDoorQB
namespace Go.Proofs.YtnldjloiafilmaaDoor
open Go.RowKit
set_option linter.unusedVariables false

/-- Where the k-th instruction goes on, as the program lists it. -/
def ldI (x : In) (k : Nat) : List Int := (if endsI x then [] else [(k : Int) + 1]) ++ (if hasT x then [x.a] else [])
/-- One number is appended. -/
theorem app_one (w : World) (base : Nat) (v : Value) (l : List Int) (z : Int) (g : Nat) (hg : w.heap.size = g) (hO : Ow (Value.int .i64) 3 w base v l) (hb : base ≤ w.heap.size) (hl : l.length ≤ 1000) :
    ∃ v' w', (Builtin.append_ #[55, 55] 55 #[v, .slice (some ⟨g, 0, none⟩) 1 1]).run Tryd.prog (w.alloc (.cells #[.int .i64 z] 3)) = .ok v' w' ∧ Ow (Value.int .i64) 3 w' base v' (l ++ [z]) ∧
      (w.alloc (.cells #[.int .i64 z] 3)).grownBy w' v.ownBlock ∧ (v'.ownBlock = v.ownBlock ∨ v'.ownBlock = some (w.heap.size + 1)) := by
  have hs := src_cell (P := Tryd.prog) w 55 3 Tryd.underlying55 (.int .i64 z) rfl g hg
  have hO1 : Ow (Value.int .i64) 3 (w.alloc (.cells #[.int .i64 z] 3)) base v l := hO.keptN (Kp.alloc _ _ _)
  obtain ⟨v', w', h1, h2, h3, h4⟩ := iapp_row 55 3 55 _ 1 8 Tryd.underlying55 infoI rfl (by omega) _ base v _ _ _ _ _ hO1 hs (by simp; omega) (by omega)
  refine ⟨v', w', h1, ?_, h3, by simpa using h4⟩
  unfold Ow
  simpa using h2

set_option maxRecDepth 100000 in
set_option maxHeartbeats 1000000 in
theorem qleads_any (x : In) (k : Nat) (w : World) (hk : k < 64) :
    Calls Tryd.prog 52 #[x.val, .int .i64 (k : Int)] w fun e w' => ∃ v', e = .returned v' ∧ Sl (Value.int .i64) w'.heap.size w' v' (ldI x k) ∧ w.grownBy w' none := by
  have hb := Ib.new w x
  have hg0 := World.grownBy_alloc w (.cells #[.int .i64 x.op, .int .i64 x.a, .int .i64 x.b, .int .i64 x.c, .int .i64 x.v.k, .int .i64 x.v.n, .string x.v.s] 41) none
  obtain ⟨T, HT⟩ : ∃ T, Hid (tgI x = T) := ⟨_, rfl⟩
  obtain ⟨H, HH⟩ : ∃ H, Hid (hasT x = H) := ⟨_, rfl⟩
  obtain ⟨E, HE⟩ : ∃ E, Hid (endsI x = E) := ⟨_, rfl⟩
  have HL : Hid (ldI x k = (if E then [] else [(k : Int) + 1]) ++ (if H then [T] else [])) := by
    show _ = _
    unfold ldI
    rw [HE.out, HH.out]
    cases H with
    | false => rfl
    | true => rw [← HT.out]; unfold tgI; rw [HH.out]; rfl
  rw [HL.out]
  obtain ⟨c0, c1, c2, c3, c4, c5, c6⟩ := hb.cs
  have HV := hide (qleaves_any x)
  have HG := hide (qtarget_any x)
  rw [HE.out] at HV
  rw [HT.out, HH.out] at HG
  unfold In.val at HG ⊢
  cases E with
  | true =>
    go_enter Tryd.func52, Tryd.ntmps52
    go_wp2_with (go_at_call 78; refine (HV.out _).mono ?_; rintro e w1 ⟨rfl, hw1⟩; obtain rfl := hw1.symm)
    refine (HG.out _).mono ?_
    rintro e w3 ⟨rfl, hg3⟩
    have hgg := grown_up hg0 hg3
    cases H with
    | false =>
      go_wp2
      go_ret
      exact ⟨_, rfl, Sl.nil _ _ _, hgg⟩
    | true =>
      obtain ⟨v4, w4, hr4, hO4, hg4, _⟩ := app_one w3 w3.heap.size (.slice none 0 0) [] T w3.heap.size rfl (Ow.nil _ _ _ _) (Nat.le_refl _) (by simp)
      go_wp2_with (at_builtin; refine iwpList_app_at rfl (.tmp 23) (.tmp 25) 55 55 rfl _ _ rfl rfl hr4 ?_)
      go_ret
      exact ⟨_, rfl, hO4.sl, grown_up (grown_up hgg (World.grownBy_alloc _ _ _)) hg4⟩
  | false =>
    obtain ⟨v2, w2, hr2, hO2, hg2, hn2⟩ := app_one (w.alloc (.cells #[.int .i64 x.op, .int .i64 x.a, .int .i64 x.b, .int .i64 x.c, .int .i64 x.v.k, .int .i64 x.v.n, .string x.v.s] 41)) (w.heap.size + 1) (.slice none 0 0) [] ((k : Int) + 1) (w.heap.size + 1) (by simp) (Ow.nil _ _ _ _) (by simp) (by simp)
    have hg02 := grown_up (World.grownBy_alloc (w.alloc (.cells #[.int .i64 x.op, .int .i64 x.a, .int .i64 x.b, .int .i64 x.c, .int .i64 x.v.k, .int .i64 x.v.n, .string x.v.s] 41)) (.cells #[.int .i64 ((k : Int) + 1)] 3) none) hg2
    have hb2 := hb.kept hg02 (by simp)
    have hgx := grown_up hg0 hg02
    have Hlt := hide (fun j h => (hO2.lt j h))
    go_enter Tryd.func52, Tryd.ntmps52
    go_wp2_with (first | (go_at_call 78; refine (HV.out _).mono ?_; rintro e w1 ⟨rfl, hw1⟩; obtain rfl := hw1.symm) | (at_builtin; refine iwpList_app_at rfl (.tmp 12) (.tmp 15) 55 55 rfl _ _ rfl rfl hr2 ?_; clear c0 c1 c2 c3 c4 c5 c6 hr2 hg2 hg02; obtain ⟨c0, c1, c2, c3, c4, c5, c6⟩ := hb2.cs) | fail)
    refine (HG.out _).mono ?_
    rintro e w3 ⟨rfl, hg3⟩
    have hgg := grown_up hgx hg3
    have hO3 := hO2.keptN (Kp.ofN hg3 none')
    have hsz := hg3.size
    cases H with
    | false =>
      go_wp2
      go_ret
      exact ⟨_, rfl, hO3.sl, hgg⟩
    | true =>
      obtain ⟨v4, w4, hr4, hO4, hg4, _⟩ := app_one w3 (w.heap.size + 1) v2 _ T w3.heap.size rfl hO3 (by have := hgg.size; have := hb2.lt; omega) (by simp)
      go_wp2_with (at_builtin; refine iwpList_app_at rfl (.tmp 23) (.tmp 25) 55 55 rfl _ _ rfl rfl hr4 ?_)
      go_ret
      exact ⟨_, rfl, hO4.sl, grown_new (grown_up hgg (World.grownBy_alloc _ _ _)) hg4 (fun j hj => by have := (Hlt.out j hj).1; omega)⟩

end Go.Proofs.YtnldjloiafilmaaDoor
