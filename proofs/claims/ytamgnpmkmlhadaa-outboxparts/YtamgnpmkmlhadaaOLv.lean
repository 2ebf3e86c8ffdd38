/- Contracts, over the turned program: a number as a value; three messages of the laws' own check. No conditions. -/
import Derived.Test.YtamgnpmkmlhadaaOAdd
import Derived.Test.YtamgnpmkmlhadaaOFrom
import Derived.Test.YtamgnpmkmlhadaaORef
namespace Go.Proofs.Ytamgnpmkmlhadaa
open Go Go.RowKit
set_option linter.unusedVariables false

/-- A number, as a value. -/
def num9 (n : Int) : V := ⟨1, n, ByteArray.empty⟩
set_option maxRecDepth 100000 in
theorem num19_any (n : Int) (w : World) : Calls Try.prog 26 #[.int .i64 n] w fun e w' => e = .returned (num9 n).val ∧ Kp none' w w' := by
  have hV : Vb (w.alloc (.cells #[.int .i64 1, .int .i64 n, .string ⟨#[]⟩] 24)) w.heap.size (num9 n) := Vb.new w (num9 n)
  go_enter Try.func26, Try.ntmps26
  go_wp2
  refine bodyPost_ret (results_v9 rfl _ w.heap.size _ (num9 n) rfl hV) rfl ?_
  exact ⟨rfl, Kp.alloc _ _ _⟩
theorem num9_wf (n : Int) (h : ir n) : (num9 n).wf := ⟨h.1, h.2, by show (0 : Nat) ≤ maxLen; decide⟩
theorem num9_ok (n : Int) : okC (num9 n) = true := by
  have h : okV (num9 n) = true := (okV_iff _).2 (.inl ⟨rfl, rfl⟩)
  unfold okC
  rw [h]
  rfl
theorem ir0 : ir 0 := by unfold ir; omega
theorem ir1 : ir 1 := by unfold ir; omega
theorem ir2 : ir 2 := by unfold ir; omega
theorem ir5 : ir 5 := by unfold ir; omega
theorem ir6 : ir 6 := by unfold ir; omega
theorem ir7 : ir 7 := by unfold ir; omega
theorem ir9 : ir 9 := by unfold ir; omega
def l91 : List Ms := [nxM 0 [] 1 0 (num9 5)]
def l92 : List Ms := l91 ++ [nxM 0 l91 1 1 (num9 6)]
def l93 : List Ms := l92 ++ [nxM 0 l92 2 0 (num9 7)]
def m93 : Ms := ⟨3, 2, 0, num9 7⟩
theorem l93_frm : frm 2 (l93.drop 2) 0 9 = [m93] := rfl
theorem ok91 : okM (nxM 0 [] 1 0 (num9 5)) = true := okM_of (num9_ok _) (by decide) (by decide) (by decide)
theorem ok92 : okM (nxM 0 l91 1 1 (num9 6)) = true := okM_of (num9_ok _) (by decide) (by decide) (by decide)
theorem ok93 : okM (nxM 0 l92 2 0 (num9 7)) = true := okM_of (num9_ok _) (by decide) (by decide) (by decide)
set_option maxRecDepth 100000 in
set_option maxHeartbeats 4000000 in
theorem olives_any (w : World) : Calls Try.prog 8 #[] w fun e w' => e = .returned (.bool true) ∧ Kp none' w w' := by
  have HN := hide (onew_any w)
  go_enter Try.func8, Try.ntmps8
  go_upto_region 4 with (go_at_call 14; refine HN.out.mono ?_; clear HN; rintro e w0 ⟨rfl, e0⟩; have B0 := Bx.new w; rw [← e0] at B0; have k0 : Kp none' w w0 := (by rw [e0]; exact Kp.alloc _ _ _); clear e0)
  obtain ⟨p, Hp⟩ : ∃ p, Hid (w.heap.size = p) := ⟨_, rfl⟩
  rw [Hp.out] at B0 ⊢
  have H1 := fun W => hide (num19_any 5 W)
  go_upto_region 5 with (first
    | (go_at_call 26; refine (H1 _).out.mono ?_; clear H1; rintro e w1 ⟨rfl, k1⟩; have HA := hide (oadd_ok 1 0 (num9 5) w1 (B0.keptN k1) ir1 ir0 (num9_wf 5 ir5) (by decide) ok91))
    | (go_at_call 16; refine HA.out.mono ?_; clear HA; rintro e w2 ⟨rfl, v2, g2, B2, k2, q2⟩))
  have H1 := fun W => hide (num19_any 6 W)
  go_upto_region 6 with (first
    | (go_at_call 26; refine (H1 _).out.mono ?_; clear H1; rintro e w3 ⟨rfl, k3⟩; have HA := hide (oadd_ok 1 1 (num9 6) w3 (B2.keptN k3) ir1 ir1 (num9_wf 6 ir6) (by decide) ok92))
    | (go_at_call 16; refine HA.out.mono ?_; clear HA; rintro e w4 ⟨rfl, v4, g4, B4, k4, q4⟩))
  have H1 := fun W => hide (num19_any 7 W)
  go_upto_region 7 with (first
    | (go_at_call 26; refine (H1 _).out.mono ?_; clear H1; rintro e w5 ⟨rfl, k5⟩; have HA := hide (oadd_ok 2 0 (num9 7) w5 (B4.keptN k5) ir2 ir0 (num9_wf 7 ir7) (by decide) ok93))
    | (go_at_call 16; refine HA.out.mono ?_; clear HA; rintro e w6 ⟨rfl, v6, g6, B6, k6, q6⟩))
  have HA := hide (oack_new 2 w6 B6 (by decide) (by decide))
  rw [show (((0 + 2 : Nat)) : Int) = 2 from rfl] at HA
  go_upto_region 8 with (go_at_call 18; refine HA.out.mono ?_; clear HA; rintro e w7 ⟨rfl, v7, g7, B7, k7, q7⟩)
  have HF := hide (ofrom_any 0 9 w7 B7 ir0 ir9)
  go_upto_region 9 with (go_at_call 21; refine HF.out.mono ?_; clear HF; rintro e w8 ⟨⟨u, rfl, o8⟩, hg8⟩)
  have k8 := Kp.ofN hg8 none'
  have o8' : OwM w8 w7.heap.size u [m93] := o8
  clear o8
  have B8 := B7.keptN k8
  have K : Kp none' w w8 := by
    have s1 := k1.size
    have s0 := k0.size
    have s3 := k3.size
    have s5 := k5.size
    have s2 := k2.size
    have s4 := k4.size
    have s6 := k6.size
    have a2 : ∀ k, g2 = some k → p < k := fun k e => (q2 k e).elim (fun h => (by cases h)) (fun h => by have := Hp.out; have := B0.lt; omega)
    have a4 : ∀ k, g4 = some k → p < k := fun k e => (q4 k e).elim (a2 k) (fun h => by have := Hp.out; have := B0.lt; omega)
    have a6 : ∀ k, g6 = some k → p < k := fun k e => (q6 k e).elim (a4 k) (fun h => by have := Hp.out; have := B0.lt; omega)
    have f (g : Option Nat) (a : ∀ k, g = some k → p < k) : ∀ k, Ft p g k → p ≤ k := fun k h => h.elim (fun e => by omega) (fun e => Nat.le_of_lt (a k e))
    have K : Kp (fun k => p ≤ k) w w8 := (((((((k0.mono (fun _ _ h => h.elim)).then (k1.mono (fun _ _ h => h.elim))).then (k2.mono (fun k _ h => f none (fun _ h => (by cases h)) k h))).then (k3.mono (fun _ _ h => h.elim))).then (k4.mono (fun k _ h => f g2 a2 k h))).then (k5.mono (fun _ _ h => h.elim))).then (k6.mono (fun k _ h => f g4 a4 k h))).then ((k7.mono (fun k _ h => f g6 a6 k h)).then (k8.mono (fun _ _ h => h.elim)))
    exact K.mono (fun k hk h => by have := Hp.out; omega)
  have hsh : ∃ r cap, u = .slice (some ⟨r, 0, none⟩) 1 cap := by
    rcases o8'.shape with ⟨_, h⟩ | ⟨r, cap, h, _⟩
    · cases h
    · exact ⟨r, cap, h⟩
  obtain ⟨r, cap, rfl⟩ := hsh
  have n0 : w8.cell? ⟨r, 0, none⟩ = some (.int .i64 3) := OwR.cells o8' clM rfl 0 (by decide) 0 _ rfl
  have n3 : w8.cell? ⟨r, 3, none⟩ = some (.int .i64 1) := OwR.cells o8' clM rfl 0 (by decide) 3 _ rfl
  have n4 : w8.cell? ⟨r, 4, none⟩ = some (.int .i64 7) := OwR.cells o8' clM rfl 0 (by decide) 4 _ rfl
  have n5 : w8.cell? ⟨r, 5, none⟩ = some (.string ByteArray.empty) := OwR.cells o8' clM rfl 0 (by decide) 5 _ rfl
  have HB := hide B8
  have HK := hide K
  clear o8' B8 K B0 B2 B4 B6 B7 k0 k1 k2 k3 k4 k5 k6 k7 k8 hg8 q2 q4 q6 q7
  refine wp_region_classM (C := fun W => Kp none' w8 W) (by kernel_rfl) (by kernel_rfl) (Kp.drew none' w8) ?_
  refine wpQuiet_step (fun K hK => ?_)
  go_simp
  refine ⟨_, fun _ _ => rfl, hK _ ?_⟩
  clear hK K
  refine wpQuiet_step (fun K hK => ?_)
  go_simp
  refine ⟨_, fun _ _ => rfl, hK _ ?_⟩
  clear hK K
  refine wpQuiet_step (fun K hK => ?_)
  go_simp
  refine ⟨_, fun _ _ => rfl, hK _ ?_⟩
  clear hK K
  refine wpQuiet_step (fun K hK => ?_)
  go_simp
  refine ⟨_, fun _ _ => rfl, hK _ ?_⟩
  clear hK K
  refine wpQuiet_step (fun K hK => ?_)
  go_simp
  refine ⟨_, fun _ _ => rfl, hK _ ?_⟩
  clear hK K
  refine wpQuiet_step (fun K hK => ?_)
  go_simp
  refine ⟨_, fun _ _ => rfl, hK _ ?_⟩
  clear hK K
  refine wpQuiet_step (fun K hK => ?_)
  go_simp
  refine ⟨_, fun _ _ => rfl, hK _ ?_⟩
  clear hK K
  refine wpQuiet_step (fun K hK => ?_)
  go_simp
  refine ⟨_, fun _ _ => rfl, hK _ ?_⟩
  clear hK K
  refine wpQuiet_step (fun K hK => ?_)
  go_simp
  refine ⟨_, fun _ _ => rfl, hK _ ?_⟩
  clear hK K
  refine wpQuiet_step (fun K hK => ?_)
  go_simp
  refine ⟨_, fun _ _ => rfl, hK _ ?_⟩
  clear hK K
  refine wpQuiet_step (fun K hK => ?_)
  go_simp
  refine ⟨_, fun _ _ => rfl, hK _ ?_⟩
  clear hK K
  refine wpQuiet_step (fun K hK => ?_)
  go_simp
  refine ⟨_, fun _ _ => rfl, hK _ ?_⟩
  clear hK K
  refine wpQuiet_step (fun K hK => ?_)
  go_simp
  refine ⟨_, fun _ _ => rfl, hK _ ?_⟩
  clear hK K
  refine wpQuiet_step (fun K hK => ?_)
  go_simp
  refine ⟨_, fun _ _ => rfl, hK _ ?_⟩
  clear hK K
  refine wpQuiet_step (fun K hK => ?_)
  go_simp
  refine ⟨_, fun _ _ => rfl, hK _ ?_⟩
  clear hK K
  refine wpQuiet_step (fun K hK => ?_)
  go_simp
  refine ⟨_, fun _ _ => rfl, hK _ ?_⟩
  clear hK K
  refine wpQuiet_step (fun K hK => ?_)
  go_simp
  refine ⟨_, fun _ _ => rfl, hK _ ?_⟩
  clear hK K
  refine wpQuiet_step (fun K hK => ?_)
  go_simp
  refine ⟨_, fun _ _ => rfl, hK _ ?_⟩
  clear hK K
  refine wpQuiet_step (fun K hK => ?_)
  go_simp
  refine ⟨_, fun _ _ => rfl, hK _ ?_⟩
  clear hK K
  refine wpQuiet_step (fun K hK => ?_)
  go_simp
  refine ⟨_, fun _ _ => rfl, hK _ ?_⟩
  clear hK K
  refine wpQuiet_step (fun K hK => ?_)
  go_simp
  refine ⟨_, fun _ _ => rfl, hK _ ?_⟩
  clear hK K
  refine wpQuiet_step (fun K hK => ?_)
  go_simp
  refine ⟨_, fun _ _ => rfl, hK _ ?_⟩
  clear hK K
  refine wpQuiet_step (fun K hK => ?_)
  go_simp
  refine ⟨_, fun _ _ => rfl, hK _ ?_⟩
  clear hK K
  refine wpQuiet_step (fun K hK => ?_)
  go_simp
  refine ⟨_, fun _ _ => rfl, hK _ ?_⟩
  clear hK K
  refine wpQuiet_step (fun K hK => ?_)
  go_simp
  refine ⟨_, fun _ _ => rfl, hK _ ?_⟩
  clear hK K
  refine wpQuiet_step (fun K hK => ?_)
  go_simp
  refine ⟨_, fun _ _ => rfl, hK _ ?_⟩
  clear hK K
  refine wpQuiet_step (fun K hK => ?_)
  go_simp
  refine ⟨_, fun _ _ => rfl, hK _ ?_⟩
  clear hK K
  refine wpQuiet_step (fun K hK => ?_)
  go_simp
  refine ⟨_, fun _ _ => rfl, hK _ ?_⟩
  clear hK K
  refine wpQuiet_step (fun K hK => ?_)
  go_simp
  refine ⟨_, fun _ _ => rfl, hK _ ?_⟩
  clear hK K
  refine wpQuiet_step (fun K hK => ?_)
  go_simp
  refine ⟨_, fun _ _ => rfl, hK _ ?_⟩
  clear hK K
  refine wpQuiet_step (fun K hK => ?_)
  go_simp
  refine ⟨_, fun _ _ => rfl, hK _ ?_⟩
  clear hK K
  refine wpQuiet_step (fun K hK => ?_)
  go_simp
  refine ⟨_, fun _ _ => rfl, hK _ ?_⟩
  clear hK K
  refine wpQuiet_step (fun K hK => ?_)
  go_simp
  refine ⟨_, fun _ _ => rfl, hK _ ?_⟩
  clear hK K
  refine wpQuiet_step (fun K hK => ?_)
  go_simp
  refine ⟨_, fun _ _ => rfl, hK _ ?_⟩
  clear hK K
  refine wpQuiet_step (fun K hK => ?_)
  go_simp
  refine ⟨_, fun _ _ => rfl, hK _ ?_⟩
  clear hK K
  refine wpQuiet_step (fun K hK => ?_)
  go_simp
  refine ⟨.int .i64 3, fun W hW => ?_, hK _ ?_⟩
  · have g0 := hW.cell n0 (fun h => h)
    go_simp
    try rfl
  clear hK K
  refine wpQuiet_step (fun K hK => ?_)
  go_simp
  refine ⟨_, fun _ _ => rfl, hK _ ?_⟩
  clear hK K
  refine wpQuiet_step (fun K hK => ?_)
  go_simp
  refine ⟨_, fun _ _ => rfl, hK _ ?_⟩
  clear hK K
  refine wpQuiet_step (fun K hK => ?_)
  go_simp
  refine ⟨_, fun _ _ => rfl, hK _ ?_⟩
  clear hK K
  refine wpQuiet_step (fun K hK => ?_)
  go_simp
  refine ⟨_, fun _ _ => rfl, hK _ ?_⟩
  clear hK K
  refine wpQuiet_step (fun K hK => ?_)
  go_simp
  refine ⟨_, fun _ _ => rfl, hK _ ?_⟩
  clear hK K
  refine wpQuiet_step (fun K hK => ?_)
  go_simp
  refine ⟨_, fun _ _ => rfl, hK _ ?_⟩
  clear hK K
  refine wpQuiet_step (fun K hK => ?_)
  go_simp
  refine ⟨.agg #[.int .i64 1, .int .i64 7, .string ⟨#[]⟩], fun W hW => ?_, hK _ ?_⟩
  · have g3 := hW.cell n3 (fun h => h)
    have g4 := hW.cell n4 (fun h => h)
    have g5 := hW.cell n5 (fun h => h)
    go_simp
    try rfl
  clear hK K
  refine wpQuiet_step (fun K hK => ?_)
  go_simp
  refine ⟨.agg #[.int .i64 1, .int .i64 7, .string ⟨#[]⟩], fun W hW => ?_, hK _ ?_⟩
  · refine (num19_any 7 W).mono ?_
    rintro e w5 ⟨rfl, hg5⟩
    exact ⟨rfl, hW.thenN hg5⟩
  clear hK K
  refine wpQuiet_step (fun K hK => ?_)
  go_simp
  refine ⟨_, fun _ _ => rfl, hK _ ?_⟩
  clear hK K
  refine wpQuiet_step (fun K hK => ?_)
  go_simp
  refine ⟨_, fun _ _ => rfl, hK _ ?_⟩
  clear hK K
  refine wpQuiet_step (fun K hK => ?_)
  go_simp
  refine ⟨_, fun _ _ => rfl, hK _ ?_⟩
  clear hK K
  refine wpQuiet_step (fun K hK => ?_)
  go_simp
  refine ⟨_, fun _ _ => rfl, hK _ ?_⟩
  clear hK K
  refine wpQuiet_step (fun K hK => ?_)
  go_simp
  refine ⟨.int .i64 2, fun W hW => ?_, hK _ ?_⟩
  · refine (omark_any W (HB.out.keptN hW)).mono ?_
    rintro e w5 ⟨rfl, rfl⟩
    exact ⟨rfl, hW⟩
  clear hK K
  refine wpQuiet_step (fun K hK => ?_)
  go_simp
  refine ⟨_, fun _ _ => rfl, hK _ ?_⟩
  clear hK K
  refine wpQuiet_step (fun K hK => ?_)
  go_simp
  refine ⟨_, fun _ _ => rfl, hK _ ?_⟩
  clear hK K
  refine wpQuiet_step (fun K hK => ?_)
  go_simp
  refine ⟨_, fun _ _ => rfl, hK _ ?_⟩
  clear hK K
  refine wpQuiet_nil ?_
  intro wE hE
  go_wp2
  go_ret
  exact ⟨rfl, HK.out.thenN hE⟩

end Go.Proofs.Ytamgnpmkmlhadaa
