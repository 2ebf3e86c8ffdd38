/- Contract, over the turned program: text.inst. Conditions: those that the theorem states. -/
import Derived.Test.YthopmlgfklhagaaGreatDoorJTj
namespace Go.Proofs.YthopmlgfklhagaaGreatDoor
open Go.RowKit
set_option linter.unusedVariables false

theorem head_getD (ws : List (List UInt8)) : ws.getD 0 [] = ws.headD [] := by cases ws <;> rfl
theorem zI_val : zI.val = .agg #[.int .i64 0, .int .i64 0, .int .i64 0, .int .i64 0, .int .i64 0, .int .i64 0, .string ⟨#[]⟩] := rfl
set_option maxRecDepth 100000 in
set_option maxHeartbeats 400000 in
theorem tinst_short (v : Value) (ws : List (List UInt8)) (w : World) (hS : Wds w v ws) (hne : ws ≠ []) (hG : G14 w) (hN : ((ws.length : Nat) : Int) ≠ szW (opU (ws.headD []))) :
    Calls Tryz.prog 12 #[v] w fun e w' => e = .returned (.tuple #[zI.val, .bool false]) ∧ w.grownBy w' none := by
  obtain ⟨q, off, c, rfl, hq, hW⟩ := hS.open hne
  have hga := World.grownBy_alloc w (.cells #[.int .i64 0, .int .i64 0, .int .i64 0, .int .i64 0, .int .i64 0, .int .i64 0, .string ⟨#[]⟩] 35) none
  have hb : Ib (w.alloc (.cells #[.int .i64 0, .int .i64 0, .int .i64 0, .int .i64 0, .int .i64 0, .int .i64 0, .string ⟨#[]⟩] 35)) w.heap.size ⟨0, 0, 0, 0, ⟨0, 0, ⟨#[]⟩⟩⟩ := Ib.new w ⟨0, 0, 0, 0, ⟨0, 0, ⟨#[]⟩⟩⟩
  have hG1 := hG.keptN hga
  have hl : 0 < ws.length := List.length_pos_iff.2 hne
  have hc0 := hW.kept hq hga 0 hl
  rw [Nat.add_zero, head_getD] at hc0
  have hop := opOf_any (mkB (ws.headD [])) _ hG1
  rw [mkB_list] at hop
  have Hop := hide hop
  have Hsz := hide (size_any (opU (ws.headD [])) _ hG1)
  generalize opU (ws.headD []) = op at *
  generalize hX : mkB (ws.headD []) = X at *
  generalize hS : szW op = S at *
  have h0 : ((ws.length : Nat) : Int) - S ≠ 0 := by omega
  have h1 : (((ws.length : Nat) : Int) != S) = true := by rw [bne_iff_ne]; exact hN
  have hl' : (0 : Int) < (ws.length : Int) := by omega
  generalize ws.length = N at *
  obtain ⟨d0, d1, d2, d3, d4, d5, d6⟩ := hb.cs
  have f0 := hb.fz 0; have f1 := hb.fz 1; have f2 := hb.fz 2; have f3 := hb.fz 3; have f4 := hb.fz 4; have f5 := hb.fz 5; have f6 := hb.fz 6
  have hP := hb.put7 zI
  have HP1 := hide hP.1
  have HP2 := hide (grown_new hga hP.2 (fun k e => by cases e; exact Nat.le_refl _))
  clear hop hG hG1 hW hS hX hne hP hb hN h0
  go_enter Tryz.func12, Tryz.ntmps12
  go_upto_region 3 with (first
    | (go_at_call 22; refine (Hop.out).mono ?_; rintro e w1 ⟨rfl, rfl⟩)
    | (go_at_call 23; refine (Hsz.out).mono ?_; rintro e w1 ⟨rfl, rfl⟩))
  clear Hop Hsz hc0
  generalize w.alloc (.cells #[.int .i64 0, .int .i64 0, .int .i64 0, .int .i64 0, .int .i64 0, .int .i64 0, .string ⟨#[]⟩] 35) = W1 at *
  go_wp2_with fail
  refine bodyPost_ret (results_ib2 rfl _ w.heap.size _ zI _ rfl rfl HP1.out) rfl ?_
  exact ⟨rfl, HP2.out⟩

end Go.Proofs.YthopmlgfklhagaaGreatDoor
