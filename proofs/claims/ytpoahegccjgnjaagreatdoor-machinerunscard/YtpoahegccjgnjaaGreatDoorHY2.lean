/- Contracts, over the turned program: the document's Walk: Do of what reckons. Conditions: those that each theorem states. Contracts, over the turned program: the document's Walk: how a step ends. Conditions: those that each theorem states. Contract, over the turned program: the document's Walk: a message given out. Conditions: those that each theorem states. Contract, over the turned program: the document's Walk: a child that is started. Conditions: those that each theorem states. Contract, over the turned program: the document's Walk: how long a step sleeps. Conditions: those that each theorem states. Contract, over the turned program: the document's Walk: its entry of a key. Conditions: those that each theorem states. Contracts, over the turned program: the document's Walk: what is stored, what is dropped. Conditions: those that each theorem states. Contracts, over the turned program: the document's Walk: Do of what does something beside registers. Conditions: those that each theorem states. -/
import Derived.Test.YtpoahegccjgnjaaGreatDoorHY1
import Derived.Test.YtpoahegccjgnjaaGreatDoorHJo
import Derived.Deep.RegionHeldLaw
import Derived.Deep.RegionLaw
import Derived.Deep.CutRange
import Derived.Test.YtpoahegccjgnjaaGreatDoorHJn
namespace Go.Proofs.YtpoahegccjgnjaaGreatDoor
open Go Go.RowKit
set_option linter.unusedVariables false

set_option maxRecDepth 100000 in
set_option maxHeartbeats 1000000 in
theorem xdo_add (B : Bd) (g : Nat) (tv rv pv ov kv : Value) (S : Ms) (x : V) (a : Nat) (b : Nat) (c : Nat) (la : a < 6) (lb : b < 6) (lc : c < 6) (w : World) (hM : Xm B w g tv S 0 zV false false rv pv ov kv) (h6 : S.rg.length = 6) (hp0 : 0 ≤ S.pc) (hp1 : S.pc ≤ 1000) (hp2 : S.pc ≤ 500) (hnb : (S.at (b : Int)).wf) (hnc : (S.at (c : Int)).wf) :
    Calls Tryz.prog 14 #[.pointer (some ⟨g, 0, none⟩), (⟨3, (a : Int), (b : Int), (c : Int), x⟩ : In).val] w fun e w' => XP B w g tv ((S.to (S.pc + 1)).sum (⟨3, (a : Int), (b : Int), (c : Int), x⟩ : In) (· + ·)) e w' := by
  obtain ⟨r, cap, rfl, hBr, hr, hrg⟩ := xt_cells hM h6
  have hgb := World.grownBy_alloc w (.cells #[.int .i64 3, .int .i64 (a : Int), .int .i64 (b : Int), .int .i64 (c : Int), .int .i64 x.k, .int .i64 x.n, .string x.s] 44) none
  have hb : Ib (w.alloc (.cells #[.int .i64 3, .int .i64 (a : Int), .int .i64 (b : Int), .int .i64 (c : Int), .int .i64 x.k, .int .i64 x.n, .string x.s] 44)) w.heap.size ⟨3, (a : Int), (b : Int), (c : Int), x⟩ := Ib.new w ⟨3, (a : Int), (b : Int), (c : Int), x⟩
  have hM1 := hM.keptN hgb
  have la' : (a : Int) < 6 := by omega
  have lb' : (b : Int) < 6 := by omega
  have lc' : (c : Int) < 6 := by omega
  obtain ⟨R, HR⟩ : ∃ R : Rs, Hid (((S.to (S.pc + 1)).sum (⟨3, (a : Int), (b : Int), (c : Int), x⟩ : In) (· + ·)) = R) := ⟨_, rfl⟩
  rw [HR.out]
  unfold In.val
  dsimp only
  go_enter Tryz.func14, Tryz.ntmps14
  go_upto_region 1 with fail
  have HG1 := hide (kp_n (B := B) hgb)
  generalize w.alloc (.cells #[.int .i64 3, .int .i64 (a : Int), .int .i64 (b : Int), .int .i64 (c : Int), .int .i64 x.k, .int .i64 x.n, .string x.s] 44) = W at *
  have hqg : g < w.heap.size := hM.lt
  generalize hq : w.heap.size = q at *
  have t0 := hM1.tb.c0
  have tf := hM1.tb.fz 0
  have hM2 := hM1.to (S.pc + 1)
  have hb2 := hb.kept hM2.2 (by simp; omega)
  have HG2 := hide (HG1.out.then (kp_of hM2.2 hM1.gB))
  obtain ⟨b0, b1, b2, b3, b4, b5, b6⟩ := hb.cs
  dsimp only at b0 b1 b2 b3 b4 b5 b6
  go_upto_region 2 with fail
  have HM2 := hide hM2.1
  clear t0 tf hM1 hb hM2 b0 b1 b2 b3 b4 b5 b6
  generalize W.setCell ⟨g, 0, none⟩ (.int .i64 (S.pc + 1)) = W2 at *
  obtain ⟨b0, b1, b2, b3, b4, b5, b6⟩ := hb2.cs
  dsimp only at b0 b1 b2 b3 b4 b5 b6
  have hM2 := HM2.out
  have t1 := hM2.tb.c1
  go_upto_region 11 with fail
  have hcall := xsum_add B g tv (.slice (some ⟨r, 0, none⟩) 6 cap) pv ov kv (S.to (S.pc + 1)) x a b c la lb lc  W2 hM2 h6 (by show 0 ≤ S.pc + 1; omega) (by show S.pc + 1 ≤ 1000; omega) hnb hnc
  unfold In.val at hcall
  dsimp only at hcall
  go_wp2_with (go_at_call 42; refine hcall.mono ?_; rintro e w3 ⟨rfl, hR, hk⟩)
  go_end0
  exact ⟨rfl, by rw [← HR.out]; exact hR, HG2.out.then hk⟩
set_option maxRecDepth 100000 in
set_option maxHeartbeats 1000000 in
theorem xdo_sub (B : Bd) (g : Nat) (tv rv pv ov kv : Value) (S : Ms) (x : V) (a : Nat) (b : Nat) (c : Nat) (la : a < 6) (lb : b < 6) (lc : c < 6) (w : World) (hM : Xm B w g tv S 0 zV false false rv pv ov kv) (h6 : S.rg.length = 6) (hp0 : 0 ≤ S.pc) (hp1 : S.pc ≤ 1000) (hp2 : S.pc ≤ 500) (hnb : (S.at (b : Int)).wf) (hnc : (S.at (c : Int)).wf) :
    Calls Tryz.prog 14 #[.pointer (some ⟨g, 0, none⟩), (⟨4, (a : Int), (b : Int), (c : Int), x⟩ : In).val] w fun e w' => XP B w g tv ((S.to (S.pc + 1)).sum (⟨4, (a : Int), (b : Int), (c : Int), x⟩ : In) (· - ·)) e w' := by
  obtain ⟨r, cap, rfl, hBr, hr, hrg⟩ := xt_cells hM h6
  have hgb := World.grownBy_alloc w (.cells #[.int .i64 4, .int .i64 (a : Int), .int .i64 (b : Int), .int .i64 (c : Int), .int .i64 x.k, .int .i64 x.n, .string x.s] 44) none
  have hb : Ib (w.alloc (.cells #[.int .i64 4, .int .i64 (a : Int), .int .i64 (b : Int), .int .i64 (c : Int), .int .i64 x.k, .int .i64 x.n, .string x.s] 44)) w.heap.size ⟨4, (a : Int), (b : Int), (c : Int), x⟩ := Ib.new w ⟨4, (a : Int), (b : Int), (c : Int), x⟩
  have hM1 := hM.keptN hgb
  have la' : (a : Int) < 6 := by omega
  have lb' : (b : Int) < 6 := by omega
  have lc' : (c : Int) < 6 := by omega
  obtain ⟨R, HR⟩ : ∃ R : Rs, Hid (((S.to (S.pc + 1)).sum (⟨4, (a : Int), (b : Int), (c : Int), x⟩ : In) (· - ·)) = R) := ⟨_, rfl⟩
  rw [HR.out]
  unfold In.val
  dsimp only
  go_enter Tryz.func14, Tryz.ntmps14
  go_upto_region 1 with fail
  have HG1 := hide (kp_n (B := B) hgb)
  generalize w.alloc (.cells #[.int .i64 4, .int .i64 (a : Int), .int .i64 (b : Int), .int .i64 (c : Int), .int .i64 x.k, .int .i64 x.n, .string x.s] 44) = W at *
  have hqg : g < w.heap.size := hM.lt
  generalize hq : w.heap.size = q at *
  have t0 := hM1.tb.c0
  have tf := hM1.tb.fz 0
  have hM2 := hM1.to (S.pc + 1)
  have hb2 := hb.kept hM2.2 (by simp; omega)
  have HG2 := hide (HG1.out.then (kp_of hM2.2 hM1.gB))
  obtain ⟨b0, b1, b2, b3, b4, b5, b6⟩ := hb.cs
  dsimp only at b0 b1 b2 b3 b4 b5 b6
  go_upto_region 2 with fail
  have HM2 := hide hM2.1
  clear t0 tf hM1 hb hM2 b0 b1 b2 b3 b4 b5 b6
  generalize W.setCell ⟨g, 0, none⟩ (.int .i64 (S.pc + 1)) = W2 at *
  obtain ⟨b0, b1, b2, b3, b4, b5, b6⟩ := hb2.cs
  dsimp only at b0 b1 b2 b3 b4 b5 b6
  have hM2 := HM2.out
  have t1 := hM2.tb.c1
  go_upto_region 11 with fail
  have hcall := xsum_sub B g tv (.slice (some ⟨r, 0, none⟩) 6 cap) pv ov kv (S.to (S.pc + 1)) x a b c la lb lc  W2 hM2 h6 (by show 0 ≤ S.pc + 1; omega) (by show S.pc + 1 ≤ 1000; omega) hnb hnc
  unfold In.val at hcall
  dsimp only at hcall
  go_wp2_with (go_at_call 42; refine hcall.mono ?_; rintro e w3 ⟨rfl, hR, hk⟩)
  go_end0
  exact ⟨rfl, by rw [← HR.out]; exact hR, HG2.out.then hk⟩
set_option maxRecDepth 100000 in
set_option maxHeartbeats 1000000 in
theorem xdo_mul (B : Bd) (g : Nat) (tv rv pv ov kv : Value) (S : Ms) (x : V) (a : Nat) (b : Nat) (c : Nat) (la : a < 6) (lb : b < 6) (lc : c < 6) (w : World) (hM : Xm B w g tv S 0 zV false false rv pv ov kv) (h6 : S.rg.length = 6) (hp0 : 0 ≤ S.pc) (hp1 : S.pc ≤ 1000) (hp2 : S.pc ≤ 500) (hnb : (S.at (b : Int)).wf) (hnc : (S.at (c : Int)).wf) :
    Calls Tryz.prog 14 #[.pointer (some ⟨g, 0, none⟩), (⟨5, (a : Int), (b : Int), (c : Int), x⟩ : In).val] w fun e w' => XP B w g tv ((S.to (S.pc + 1)).sum (⟨5, (a : Int), (b : Int), (c : Int), x⟩ : In) (· * ·)) e w' := by
  obtain ⟨r, cap, rfl, hBr, hr, hrg⟩ := xt_cells hM h6
  have hgb := World.grownBy_alloc w (.cells #[.int .i64 5, .int .i64 (a : Int), .int .i64 (b : Int), .int .i64 (c : Int), .int .i64 x.k, .int .i64 x.n, .string x.s] 44) none
  have hb : Ib (w.alloc (.cells #[.int .i64 5, .int .i64 (a : Int), .int .i64 (b : Int), .int .i64 (c : Int), .int .i64 x.k, .int .i64 x.n, .string x.s] 44)) w.heap.size ⟨5, (a : Int), (b : Int), (c : Int), x⟩ := Ib.new w ⟨5, (a : Int), (b : Int), (c : Int), x⟩
  have hM1 := hM.keptN hgb
  have la' : (a : Int) < 6 := by omega
  have lb' : (b : Int) < 6 := by omega
  have lc' : (c : Int) < 6 := by omega
  obtain ⟨R, HR⟩ : ∃ R : Rs, Hid (((S.to (S.pc + 1)).sum (⟨5, (a : Int), (b : Int), (c : Int), x⟩ : In) (· * ·)) = R) := ⟨_, rfl⟩
  rw [HR.out]
  unfold In.val
  dsimp only
  go_enter Tryz.func14, Tryz.ntmps14
  go_upto_region 1 with fail
  have HG1 := hide (kp_n (B := B) hgb)
  generalize w.alloc (.cells #[.int .i64 5, .int .i64 (a : Int), .int .i64 (b : Int), .int .i64 (c : Int), .int .i64 x.k, .int .i64 x.n, .string x.s] 44) = W at *
  have hqg : g < w.heap.size := hM.lt
  generalize hq : w.heap.size = q at *
  have t0 := hM1.tb.c0
  have tf := hM1.tb.fz 0
  have hM2 := hM1.to (S.pc + 1)
  have hb2 := hb.kept hM2.2 (by simp; omega)
  have HG2 := hide (HG1.out.then (kp_of hM2.2 hM1.gB))
  obtain ⟨b0, b1, b2, b3, b4, b5, b6⟩ := hb.cs
  dsimp only at b0 b1 b2 b3 b4 b5 b6
  go_upto_region 2 with fail
  have HM2 := hide hM2.1
  clear t0 tf hM1 hb hM2 b0 b1 b2 b3 b4 b5 b6
  generalize W.setCell ⟨g, 0, none⟩ (.int .i64 (S.pc + 1)) = W2 at *
  obtain ⟨b0, b1, b2, b3, b4, b5, b6⟩ := hb2.cs
  dsimp only at b0 b1 b2 b3 b4 b5 b6
  have hM2 := HM2.out
  have t1 := hM2.tb.c1
  go_upto_region 11 with fail
  have hcall := xsum_mul B g tv (.slice (some ⟨r, 0, none⟩) 6 cap) pv ov kv (S.to (S.pc + 1)) x a b c la lb lc  W2 hM2 h6 (by show 0 ≤ S.pc + 1; omega) (by show S.pc + 1 ≤ 1000; omega) hnb hnc
  unfold In.val at hcall
  dsimp only at hcall
  go_wp2_with (go_at_call 42; refine hcall.mono ?_; rintro e w3 ⟨rfl, hR, hk⟩)
  go_end0
  exact ⟨rfl, by rw [← HR.out]; exact hR, HG2.out.then hk⟩
set_option maxRecDepth 100000 in
set_option maxHeartbeats 1000000 in
theorem xdo_cat (B : Bd) (g : Nat) (tv rv pv ov kv : Value) (S : Ms) (x : V) (a : Nat) (b : Nat) (c : Nat) (la : a < 6) (lb : b < 6) (lc : c < 6) (w : World) (hM : Xm B w g tv S 0 zV false false rv pv ov kv) (h6 : S.rg.length = 6) (hp0 : 0 ≤ S.pc) (hp1 : S.pc ≤ 1000) (hp2 : S.pc ≤ 500) (hbs : (S.at (b : Int)).s.size ≤ 10) (hcs : (S.at (c : Int)).s.size ≤ 10) :
    Calls Tryz.prog 14 #[.pointer (some ⟨g, 0, none⟩), (⟨6, (a : Int), (b : Int), (c : Int), x⟩ : In).val] w fun e w' => XP B w g tv (if (((S.to (S.pc + 1)).at (b : Int)).k = 2 ∧ ((S.to (S.pc + 1)).at (c : Int)).k = 2) ∧ ((S.to (S.pc + 1)).at (b : Int)).s.size + ((S.to (S.pc + 1)).at (c : Int)).s.size ≤ 10 then Rs.go ((S.to (S.pc + 1)).set (a : Int) ⟨2, 0, ((S.to (S.pc + 1)).at (b : Int)).s ++ ((S.to (S.pc + 1)).at (c : Int)).s⟩) else Rs.bad) e w' := by
  obtain ⟨r, cap, rfl, hBr, hr, hrg⟩ := xt_cells hM h6
  have hgb := World.grownBy_alloc w (.cells #[.int .i64 6, .int .i64 (a : Int), .int .i64 (b : Int), .int .i64 (c : Int), .int .i64 x.k, .int .i64 x.n, .string x.s] 44) none
  have hb : Ib (w.alloc (.cells #[.int .i64 6, .int .i64 (a : Int), .int .i64 (b : Int), .int .i64 (c : Int), .int .i64 x.k, .int .i64 x.n, .string x.s] 44)) w.heap.size ⟨6, (a : Int), (b : Int), (c : Int), x⟩ := Ib.new w ⟨6, (a : Int), (b : Int), (c : Int), x⟩
  have hM1 := hM.keptN hgb
  have la' : (a : Int) < 6 := by omega
  have lb' : (b : Int) < 6 := by omega
  have lc' : (c : Int) < 6 := by omega
  obtain ⟨R, HR⟩ : ∃ R : Rs, Hid ((if (((S.to (S.pc + 1)).at (b : Int)).k = 2 ∧ ((S.to (S.pc + 1)).at (c : Int)).k = 2) ∧ ((S.to (S.pc + 1)).at (b : Int)).s.size + ((S.to (S.pc + 1)).at (c : Int)).s.size ≤ 10 then Rs.go ((S.to (S.pc + 1)).set (a : Int) ⟨2, 0, ((S.to (S.pc + 1)).at (b : Int)).s ++ ((S.to (S.pc + 1)).at (c : Int)).s⟩) else Rs.bad) = R) := ⟨_, rfl⟩
  rw [HR.out]
  unfold In.val
  dsimp only
  go_enter Tryz.func14, Tryz.ntmps14
  go_upto_region 1 with fail
  have HG1 := hide (kp_n (B := B) hgb)
  generalize w.alloc (.cells #[.int .i64 6, .int .i64 (a : Int), .int .i64 (b : Int), .int .i64 (c : Int), .int .i64 x.k, .int .i64 x.n, .string x.s] 44) = W at *
  have hqg : g < w.heap.size := hM.lt
  generalize hq : w.heap.size = q at *
  have t0 := hM1.tb.c0
  have tf := hM1.tb.fz 0
  have hM2 := hM1.to (S.pc + 1)
  have hb2 := hb.kept hM2.2 (by simp; omega)
  have HG2 := hide (HG1.out.then (kp_of hM2.2 hM1.gB))
  obtain ⟨b0, b1, b2, b3, b4, b5, b6⟩ := hb.cs
  dsimp only at b0 b1 b2 b3 b4 b5 b6
  go_upto_region 2 with fail
  have HM2 := hide hM2.1
  clear t0 tf hM1 hb hM2 b0 b1 b2 b3 b4 b5 b6
  generalize W.setCell ⟨g, 0, none⟩ (.int .i64 (S.pc + 1)) = W2 at *
  obtain ⟨b0, b1, b2, b3, b4, b5, b6⟩ := hb2.cs
  dsimp only at b0 b1 b2 b3 b4 b5 b6
  have hM2 := HM2.out
  have t1 := hM2.tb.c1
  go_upto_region 13 with fail
  have hcall := xcat_any B g tv (.slice (some ⟨r, 0, none⟩) 6 cap) pv ov kv (S.to (S.pc + 1)) x a b c la lb lc  W2 hM2 h6 (by show 0 ≤ S.pc + 1; omega) (by show S.pc + 1 ≤ 1000; omega) hbs hcs
  unfold In.val at hcall
  dsimp only at hcall
  go_wp2_with (go_at_call 43; refine hcall.mono ?_; rintro e w3 ⟨rfl, hR, hk⟩)
  go_end0
  exact ⟨rfl, by rw [← HR.out]; exact hR, HG2.out.then hk⟩

end Go.Proofs.YtpoahegccjgnjaaGreatDoor

namespace Go.Proofs.YtpoahegccjgnjaaGreatDoor
open Go Go.RowKit
set_option linter.unusedVariables false

set_option maxRecDepth 100000 in
set_option maxHeartbeats 1000000 in
theorem xeff_goes (B : Bd) (g : Nat) (tv rv pv ov kv : Value) (S : Ms) (x : V) (a b c : Int) (w : World) (hM : Xm B w g tv S 0 zV false false rv pv ov kv) (h6 : S.rg.length = 6) (hp0 : 0 ≤ S.pc) (hp1 : S.pc ≤ 1000) :
    Calls Tryz.prog 47 #[.pointer (some ⟨g, 0, none⟩), (⟨17, a, b, c, x⟩ : In).val] w fun e w' => XP B w g tv (.fin S 0 zV) e w' := by
  obtain ⟨r, cap, rfl, hBr, hr, hrg⟩ := xt_cells hM h6
  have hgb := World.grownBy_alloc w (.cells #[.int .i64 17, .int .i64 a, .int .i64 b, .int .i64 c, .int .i64 x.k, .int .i64 x.n, .string x.s] 44) none
  have hb : Ib (w.alloc (.cells #[.int .i64 17, .int .i64 a, .int .i64 b, .int .i64 c, .int .i64 x.k, .int .i64 x.n, .string x.s] 44)) w.heap.size ⟨17, a, b, c, x⟩ := Ib.new w ⟨17, a, b, c, x⟩
  have hM1 := hM.keptN hgb
  unfold In.val
  dsimp only
  go_enter Tryz.func47, Tryz.ntmps47
  go_upto_region 1 with fail
  have HG1 := hide (kp_n (B := B) hgb)
  generalize w.alloc (.cells #[.int .i64 17, .int .i64 a, .int .i64 b, .int .i64 c, .int .i64 x.k, .int .i64 x.n, .string x.s] 44) = W at *
  have hqg : g < w.heap.size := hM.lt
  generalize hq : w.heap.size = q at *
  have b0 := hb.cs.1
  dsimp only at b0
  have k12 := hM1.tb.c12
  have f12 := hM1.tb.fz 12
  go_upto_region 23 with fail
  have hE := hM1.sEd true
  have hb2 := hb.kept hE.2 (by simp; omega)
  have HG2 := hide (HG1.out.then (kp_of hE.2 hM1.gB))
  have HM2 := hide hE.1
  clear hE b0 k12 f12 hb hM1
  generalize W.setCell ⟨g, 12, none⟩ (.bool true) = W2 at *
  have k6 := HM2.out.tb.c6
  have f6 := HM2.out.tb.fz 6
  have hN := HM2.out.sEn 0
  go_wp2
  go_end0
  exact ⟨rfl, ⟨_, _, _, _, hN.1⟩, HG2.out.then (kp_of hN.2 HM2.out.gB)⟩
set_option maxRecDepth 100000 in
set_option maxHeartbeats 1000000 in
theorem xeff_done (B : Bd) (g : Nat) (tv rv pv ov kv : Value) (S : Ms) (x : V) (a : Nat) (la : a < 6) (b c : Int) (w : World) (hM : Xm B w g tv S 0 zV false false rv pv ov kv) (h6 : S.rg.length = 6) (hp0 : 0 ≤ S.pc) (hp1 : S.pc ≤ 1000) :
    Calls Tryz.prog 47 #[.pointer (some ⟨g, 0, none⟩), (⟨18, (a : Int), b, c, x⟩ : In).val] w fun e w' => XP B w g tv (.fin S 1 (S.at (a : Int))) e w' := by
  obtain ⟨r, cap, rfl, hBr, hr, hrg⟩ := xt_cells hM h6
  have hgb := World.grownBy_alloc w (.cells #[.int .i64 18, .int .i64 (a : Int), .int .i64 b, .int .i64 c, .int .i64 x.k, .int .i64 x.n, .string x.s] 44) none
  have hb : Ib (w.alloc (.cells #[.int .i64 18, .int .i64 (a : Int), .int .i64 b, .int .i64 c, .int .i64 x.k, .int .i64 x.n, .string x.s] 44)) w.heap.size ⟨18, (a : Int), b, c, x⟩ := Ib.new w ⟨18, (a : Int), b, c, x⟩
  have hM1 := hM.keptN hgb
  have la' : (a : Int) < 6 := by omega
  unfold In.val
  dsimp only
  go_enter Tryz.func47, Tryz.ntmps47
  go_upto_region 1 with fail
  have HG1 := hide (kp_n (B := B) hgb)
  generalize w.alloc (.cells #[.int .i64 18, .int .i64 (a : Int), .int .i64 b, .int .i64 c, .int .i64 x.k, .int .i64 x.n, .string x.s] 44) = W at *
  have hqg : g < w.heap.size := hM.lt
  generalize hq : w.heap.size = q at *
  have b0 := hb.cs.1
  dsimp only at b0
  have k12 := hM1.tb.c12
  have f12 := hM1.tb.fz 12
  go_upto_region 26 with fail
  have hE := hM1.sEd true
  have hb2 := hb.kept hE.2 (by simp; omega)
  have HG2 := hide (HG1.out.then (kp_of hE.2 hM1.gB))
  have HM2 := hide hE.1
  clear hE b0 k12 f12 hb hM1
  generalize W.setCell ⟨g, 12, none⟩ (.bool true) = W2 at *
  have k6 := HM2.out.tb.c6
  have f6 := HM2.out.tb.fz 6
  go_upto_region 27 with fail
  have hN := HM2.out.sEn 1
  have hb3 := hb2.kept hN.2 (by simp; omega)
  have HG3 := hide (HG2.out.then (kp_of hN.2 HM2.out.gB))
  have HM3 := hide hN.1
  clear hN k6 f6 hb2 HG2 HM2
  generalize W2.setCell ⟨g, 6, none⟩ (.int .i64 1) = W3 at *
  obtain ⟨b0, b1, b2, b3, b4, b5, b6⟩ := hb3.cs
  dsimp only at b0 b1 b2 b3 b4 b5 b6
  have hM3 := HM3.out
  have t1 := hM3.tb.c1
  have k7 := hM3.tb.c7
  have k8 := hM3.tb.c8
  have k9 := hM3.tb.c9
  have kf := hM3.tb.fz
  obtain ⟨ar0, ar1, ar2, rf⟩ := xg_cells hM3 h6 a la
  have hV := hM3.sVa (S.at (a : Int))
  go_region
  go_wp2
  go_end0
  exact ⟨rfl, ⟨_, _, _, _, hV.1.keptN (grown_dr _)⟩, (HG3.out.then (kp_of hV.2 hM3.gB)).then (Kp.drew _ _)⟩
set_option maxRecDepth 100000 in
set_option maxHeartbeats 1000000 in
theorem xeff_fail (B : Bd) (g : Nat) (tv rv pv ov kv : Value) (S : Ms) (x : V) (a : Nat) (la : a < 6) (b c : Int) (w : World) (hM : Xm B w g tv S 0 zV false false rv pv ov kv) (h6 : S.rg.length = 6) (hp0 : 0 ≤ S.pc) (hp1 : S.pc ≤ 1000) :
    Calls Tryz.prog 47 #[.pointer (some ⟨g, 0, none⟩), (⟨19, (a : Int), b, c, x⟩ : In).val] w fun e w' => XP B w g tv (.fin S 2 (S.at (a : Int))) e w' := by
  obtain ⟨r, cap, rfl, hBr, hr, hrg⟩ := xt_cells hM h6
  have hgb := World.grownBy_alloc w (.cells #[.int .i64 19, .int .i64 (a : Int), .int .i64 b, .int .i64 c, .int .i64 x.k, .int .i64 x.n, .string x.s] 44) none
  have hb : Ib (w.alloc (.cells #[.int .i64 19, .int .i64 (a : Int), .int .i64 b, .int .i64 c, .int .i64 x.k, .int .i64 x.n, .string x.s] 44)) w.heap.size ⟨19, (a : Int), b, c, x⟩ := Ib.new w ⟨19, (a : Int), b, c, x⟩
  have hM1 := hM.keptN hgb
  have la' : (a : Int) < 6 := by omega
  unfold In.val
  dsimp only
  go_enter Tryz.func47, Tryz.ntmps47
  go_upto_region 1 with fail
  have HG1 := hide (kp_n (B := B) hgb)
  generalize w.alloc (.cells #[.int .i64 19, .int .i64 (a : Int), .int .i64 b, .int .i64 c, .int .i64 x.k, .int .i64 x.n, .string x.s] 44) = W at *
  have hqg : g < w.heap.size := hM.lt
  generalize hq : w.heap.size = q at *
  have b0 := hb.cs.1
  dsimp only at b0
  have k12 := hM1.tb.c12
  have f12 := hM1.tb.fz 12
  go_upto_region 30 with fail
  have hE := hM1.sEd true
  have hb2 := hb.kept hE.2 (by simp; omega)
  have HG2 := hide (HG1.out.then (kp_of hE.2 hM1.gB))
  have HM2 := hide hE.1
  clear hE b0 k12 f12 hb hM1
  generalize W.setCell ⟨g, 12, none⟩ (.bool true) = W2 at *
  have k6 := HM2.out.tb.c6
  have f6 := HM2.out.tb.fz 6
  go_upto_region 31 with fail
  have hN := HM2.out.sEn 2
  have hb3 := hb2.kept hN.2 (by simp; omega)
  have HG3 := hide (HG2.out.then (kp_of hN.2 HM2.out.gB))
  have HM3 := hide hN.1
  clear hN k6 f6 hb2 HG2 HM2
  generalize W2.setCell ⟨g, 6, none⟩ (.int .i64 2) = W3 at *
  obtain ⟨b0, b1, b2, b3, b4, b5, b6⟩ := hb3.cs
  dsimp only at b0 b1 b2 b3 b4 b5 b6
  have hM3 := HM3.out
  have t1 := hM3.tb.c1
  have k7 := hM3.tb.c7
  have k8 := hM3.tb.c8
  have k9 := hM3.tb.c9
  have kf := hM3.tb.fz
  obtain ⟨ar0, ar1, ar2, rf⟩ := xg_cells hM3 h6 a la
  have hV := hM3.sVa (S.at (a : Int))
  go_region
  go_wp2
  go_end0
  exact ⟨rfl, ⟨_, _, _, _, hV.1.keptN (grown_dr _)⟩, (HG3.out.then (kp_of hV.2 hM3.gB)).then (Kp.drew _ _)⟩

end Go.Proofs.YtpoahegccjgnjaaGreatDoor

namespace Go.Proofs.YtpoahegccjgnjaaGreatDoor
open Go Go.RowKit
set_option linter.unusedVariables false

set_option maxRecDepth 100000 in
set_option maxHeartbeats 4000000 in
theorem xeff_emit (B : Bd) (g : Nat) (tv rv pv ov kv : Value) (S : Ms) (x : V) (a : Nat) (la : a < 6) (b c : Int) (w : World) (hM : Xm B w g tv S 0 zV false false rv pv ov kv) (h6 : S.rg.length = 6) (hp0 : 0 ≤ S.pc) (hp1 : S.pc ≤ 1000) (ho : S.ou.length ≤ 100) :
    Calls Tryz.prog 47 #[.pointer (some ⟨g, 0, none⟩), (⟨14, (a : Int), b, c, x⟩ : In).val] w fun e w' => XP B w g tv (if S.ou.length + 1 ≤ 4 then Rs.go ⟨S.pc, S.rg, S.pu, S.ou ++ [S.at (a : Int)], S.ki, S.sl⟩ else Rs.bad) e w' := by
  obtain ⟨r, cap, rfl, hBr, hr, hrg⟩ := xt_cells hM h6
  have hgb := World.grownBy_alloc w (.cells #[.int .i64 14, .int .i64 (a : Int), .int .i64 b, .int .i64 c, .int .i64 x.k, .int .i64 x.n, .string x.s] 44) none
  have hb : Ib (w.alloc (.cells #[.int .i64 14, .int .i64 (a : Int), .int .i64 b, .int .i64 c, .int .i64 x.k, .int .i64 x.n, .string x.s] 44)) w.heap.size ⟨14, (a : Int), b, c, x⟩ := Ib.new w ⟨14, (a : Int), b, c, x⟩
  have hM1 := hM.keptN hgb
  have la' : (a : Int) < 6 := by omega
  obtain ⟨R, HR⟩ : ∃ R, Hid ((if S.ou.length + 1 ≤ 4 then Rs.go ⟨S.pc, S.rg, S.pu, S.ou ++ [S.at (a : Int)], S.ki, S.sl⟩ else Rs.bad) = R) := ⟨_, rfl⟩
  rw [HR.out]
  unfold In.val
  dsimp only
  go_enter Tryz.func47, Tryz.ntmps47
  go_upto_region 1 with fail
  have HG1 := hide (kp_n (B := B) hgb)
  generalize w.alloc (.cells #[.int .i64 14, .int .i64 (a : Int), .int .i64 b, .int .i64 c, .int .i64 x.k, .int .i64 x.n, .string x.s] 44) = W at *
  have hqg : g < w.heap.size := hM.lt
  generalize hq : w.heap.size = q at *
  obtain ⟨b0, b1, b2, b3, b4, b5, b6⟩ := hb.cs
  dsimp only at b0 b1 b2 b3 b4 b5 b6
  have t1 := hM1.tb.c1
  obtain ⟨ar0, ar1, ar2, rf⟩ := xg_cells hM1 h6 a la
  have nq : ¬ (q = g ∨ ov.ownBlock = some q) := fun e => by
    rcases e with e | e
    · omega
    · have := (hM.ou.lt q e).2; omega
  have nr : ¬ (r = g ∨ ov.ownBlock = some r) := fun e => by
    rcases e with e | e
    · exact hrg e
    · exact (hM1.ap.r r rfl).2.2.1 e
  go_upto_region 12 with fail
  obtain ⟨N, HN⟩ : ∃ N, Hid (S.ou.length + 1 = N) := ⟨_, rfl⟩
  have hga3 : W.grownBy (World.alloc (World.drew W) (.cells #[.int .i64 (S.at (a : Int)).k, .int .i64 (S.at (a : Int)).n, .string (S.at (a : Int)).s] 31)) none := grown_up (grown_dr W) (World.grownBy_alloc _ (.cells #[.int .i64 (S.at (a : Int)).k, .int .i64 (S.at (a : Int)).n, .string (S.at (a : Int)).s] 31) none)
  have hMB := hM1.keptN hga3
  have hheap : (World.alloc (World.drew W) (.cells #[.int .i64 (S.at (a : Int)).k, .int .i64 (S.at (a : Int)).n, .string (S.at (a : Int)).s] 31)).heap[W.heap.size]? = some (.cells (V.cells (S.at (a : Int))).toArray 31 (0, 0)) := heap_alloc_new (World.drew W) (.cells #[.int .i64 (S.at (a : Int)).k, .int .i64 (S.at (a : Int)).n, .string (S.at (a : Int)).s] 31)
  obtain ⟨pr, pcap, w5, hrun, hO5, hg5, hw5⟩ := app_oneR clV (by omega) 23 31 Tryz.underlying23 (.agg #[.int .i64 0, .int .i64 0, .string ByteArray.empty]) 32 infoVv (by rfl) (by omega) (World.alloc (World.drew W) (.cells #[.int .i64 (S.at (a : Int)).k, .int .i64 (S.at (a : Int)).n, .string (S.at (a : Int)).s] 31)) B.1 ov S.ou (S.at (a : Int)) W.heap.size hMB.ou hheap (Nat.le_trans hM1.gB.1 (Nat.le_of_lt hMB.lt)) (by omega)
  have hP := hMB.appO hO5 hg5 hw5
  have ht5 := hMB.tb.kept hg5 (fun e => (hMB.ap.o g e.symm).1 rfl)
  have x3 := ht5.c3
  have x1 := ht5.c1
  have xf := ht5.fz 3
  have t3 := hM1.tb.c3
  have a3 := hMB.tb.c3
  have a1 := hMB.tb.c1
  have a3' : (World.alloc W (.cells #[.int .i64 (S.at (a : Int)).k, .int .i64 (S.at (a : Int)).n, .string (S.at (a : Int)).s] 31)).cell? ⟨g, 3, none⟩ = some ov := a3
  rw [HN.out] at hrun hO5 hP
  have HK5 := hide ((HG1.out.then (kp_n (B := B) hga3)).then ((kp_bl hMB.ouB hg5).then (Kp.setCell w5 g 3 (.slice (some ⟨pr, 0, none⟩) N pcap) (show Bk B g from hM1.gB))))
  have HP := hide hP
  have HX := hide ht5
  refine wp_region_held_drew (S := fun W0 => Kp (fun k => k = g ∨ ov.ownBlock = some k) W W0 ∧ W0.cell? ⟨g, 1, none⟩ = some (.slice (some ⟨r, 0, none⟩) 6 cap)) (by kernel_rfl) (⟨Kp.drew _ _, t1⟩) (fun hHeld => ?_)
  refine take_at (i := 0) (d := 75) (v := ?_) rfl rfl (by kernel_rfl) (by kernel_rfl) (by kernel_rfl) (fun _ _ _ h => h) (Or.inl ⟨by rfl, ?_⟩) (by assumption) ?_
  rotate_left
  · intro W hSW
    try dsimp only at hSW
    have ng := hSW.2
    have g1 := hSW.1.cell b1 nq
    have g2 := hSW.1.cell b2 nq
    have g3 := hSW.1.cell b3 nq
    have h0 := hSW.1.cell ar0 nr
    have h1 := hSW.1.cell ar1 nr
    have h2 := hSW.1.cell ar2 nr
    go_simp
    try with_reducible rfl
  try simp only [Act.put, List.setIfInBounds_toArray, List.set_cons_zero, List.set_cons_succ]
  refine take_at (i := 1) (d := 76) (v := ?_) rfl rfl (by kernel_rfl) (by kernel_rfl) (by kernel_rfl) (fun _ _ _ h => h) (Or.inl ⟨by rfl, ?_⟩) (by assumption) ?_
  rotate_left
  · intro W hSW
    try dsimp only at hSW
    have ng := hSW.2
    have g1 := hSW.1.cell b1 nq
    have g2 := hSW.1.cell b2 nq
    have g3 := hSW.1.cell b3 nq
    have h0 := hSW.1.cell ar0 nr
    have h1 := hSW.1.cell ar1 nr
    have h2 := hSW.1.cell ar2 nr
    go_simp
    try with_reducible rfl
  try simp only [Act.put, List.setIfInBounds_toArray, List.set_cons_zero, List.set_cons_succ]
  refine take_at (i := 2) (d := 77) (v := ?_) rfl rfl (by kernel_rfl) (by kernel_rfl) (by kernel_rfl) (fun _ _ _ h => h) (Or.inl ⟨by rfl, ?_⟩) (by assumption) ?_
  rotate_left
  · intro W hSW
    try dsimp only at hSW
    have ng := hSW.2
    have g1 := hSW.1.cell b1 nq
    have g2 := hSW.1.cell b2 nq
    have g3 := hSW.1.cell b3 nq
    have h0 := hSW.1.cell ar0 nr
    have h1 := hSW.1.cell ar1 nr
    have h2 := hSW.1.cell ar2 nr
    go_simp
    try with_reducible rfl
  try simp only [Act.put, List.setIfInBounds_toArray, List.set_cons_zero, List.set_cons_succ]
  refine take_at (i := 3) (d := 78) (v := ?_) rfl rfl (by kernel_rfl) (by kernel_rfl) (by kernel_rfl) (fun _ _ _ h => h) (Or.inl ⟨by rfl, ?_⟩) (by assumption) ?_
  rotate_left
  · intro W hSW
    try dsimp only at hSW
    have ng := hSW.2
    have g1 := hSW.1.cell b1 nq
    have g2 := hSW.1.cell b2 nq
    have g3 := hSW.1.cell b3 nq
    have h0 := hSW.1.cell ar0 nr
    have h1 := hSW.1.cell ar1 nr
    have h2 := hSW.1.cell ar2 nr
    go_simp
    try with_reducible rfl
  try simp only [Act.put, List.setIfInBounds_toArray, List.set_cons_zero, List.set_cons_succ]
  refine take_at (i := 4) (d := 79) (v := ?_) rfl rfl (by kernel_rfl) (by kernel_rfl) (by kernel_rfl) (fun _ _ _ h => h) (Or.inl ⟨by rfl, ?_⟩) (by assumption) ?_
  rotate_left
  · intro W hSW
    try dsimp only at hSW
    have ng := hSW.2
    have g1 := hSW.1.cell b1 nq
    have g2 := hSW.1.cell b2 nq
    have g3 := hSW.1.cell b3 nq
    have h0 := hSW.1.cell ar0 nr
    have h1 := hSW.1.cell ar1 nr
    have h2 := hSW.1.cell ar2 nr
    go_simp
    try with_reducible rfl
  try simp only [Act.put, List.setIfInBounds_toArray, List.set_cons_zero, List.set_cons_succ]
  refine take_at (i := 6) (d := 81) (v := ?_) rfl rfl (by kernel_rfl) (by kernel_rfl) (by kernel_rfl) (fun _ _ _ h => h) (Or.inl ⟨by rfl, ?_⟩) (by assumption) ?_
  rotate_left
  · intro W hSW
    try dsimp only at hSW
    have ng := hSW.2
    have g1 := hSW.1.cell b1 nq
    have g2 := hSW.1.cell b2 nq
    have g3 := hSW.1.cell b3 nq
    have h0 := hSW.1.cell ar0 nr
    have h1 := hSW.1.cell ar1 nr
    have h2 := hSW.1.cell ar2 nr
    go_simp
    try with_reducible rfl
  try simp only [Act.put, List.setIfInBounds_toArray, List.set_cons_zero, List.set_cons_succ]
  refine take_at (i := 7) (d := 82) (v := ?_) rfl rfl (by kernel_rfl) (by kernel_rfl) (by kernel_rfl) (fun _ _ _ h => h) (Or.inl ⟨by rfl, ?_⟩) (by assumption) ?_
  rotate_left
  · intro W hSW
    try dsimp only at hSW
    have ng := hSW.2
    have g1 := hSW.1.cell b1 nq
    have g2 := hSW.1.cell b2 nq
    have g3 := hSW.1.cell b3 nq
    have h0 := hSW.1.cell ar0 nr
    have h1 := hSW.1.cell ar1 nr
    have h2 := hSW.1.cell ar2 nr
    go_simp
    try with_reducible rfl
  try simp only [Act.put, List.setIfInBounds_toArray, List.set_cons_zero, List.set_cons_succ]
  refine take_at (i := 8) (d := 83) (v := ?_) rfl rfl (by kernel_rfl) (by kernel_rfl) (by kernel_rfl) (fun _ _ _ h => h) (Or.inl ⟨by rfl, ?_⟩) (by assumption) ?_
  rotate_left
  · intro W hSW
    try dsimp only at hSW
    have ng := hSW.2
    have g1 := hSW.1.cell b1 nq
    have g2 := hSW.1.cell b2 nq
    have g3 := hSW.1.cell b3 nq
    have h0 := hSW.1.cell ar0 nr
    have h1 := hSW.1.cell ar1 nr
    have h2 := hSW.1.cell ar2 nr
    go_simp
    try with_reducible rfl
  try simp only [Act.put, List.setIfInBounds_toArray, List.set_cons_zero, List.set_cons_succ]
  refine take_at (i := 9) (d := 84) (v := ?_) rfl rfl (by kernel_rfl) (by kernel_rfl) (by kernel_rfl) (fun _ _ _ h => h) (Or.inl ⟨by rfl, ?_⟩) (by assumption) ?_
  rotate_left
  · intro W hSW
    try dsimp only at hSW
    have ng := hSW.2
    have g1 := hSW.1.cell b1 nq
    have g2 := hSW.1.cell b2 nq
    have g3 := hSW.1.cell b3 nq
    have h0 := hSW.1.cell ar0 nr
    have h1 := hSW.1.cell ar1 nr
    have h2 := hSW.1.cell ar2 nr
    go_simp
    try with_reducible rfl
  try simp only [Act.put, List.setIfInBounds_toArray, List.set_cons_zero, List.set_cons_succ]
  refine take_at (i := 10) (d := 85) (v := ?_) rfl rfl (by kernel_rfl) (by kernel_rfl) (by kernel_rfl) (fun _ _ _ h => h) (Or.inl ⟨by rfl, ?_⟩) (by assumption) ?_
  rotate_left
  · intro W hSW
    try dsimp only at hSW
    have ng := hSW.2
    have g1 := hSW.1.cell b1 nq
    have g2 := hSW.1.cell b2 nq
    have g3 := hSW.1.cell b3 nq
    have h0 := hSW.1.cell ar0 nr
    have h1 := hSW.1.cell ar1 nr
    have h2 := hSW.1.cell ar2 nr
    go_simp
    try with_reducible rfl
  try simp only [Act.put, List.setIfInBounds_toArray, List.set_cons_zero, List.set_cons_succ]
  refine take_at (i := 11) (d := 86) (v := ?_) rfl rfl (by kernel_rfl) (by kernel_rfl) (by kernel_rfl) (fun _ _ _ h => h) (Or.inl ⟨by rfl, ?_⟩) (by assumption) ?_
  rotate_left
  · intro W hSW
    try dsimp only at hSW
    have ng := hSW.2
    have g1 := hSW.1.cell b1 nq
    have g2 := hSW.1.cell b2 nq
    have g3 := hSW.1.cell b3 nq
    have h0 := hSW.1.cell ar0 nr
    have h1 := hSW.1.cell ar1 nr
    have h2 := hSW.1.cell ar2 nr
    go_simp
    try with_reducible rfl
  try simp only [Act.put, List.setIfInBounds_toArray, List.set_cons_zero, List.set_cons_succ]
  refine take_at (i := 12) (d := 87) (v := ?_) rfl rfl (by kernel_rfl) (by kernel_rfl) (by kernel_rfl) (fun _ _ _ h => h) (Or.inl ⟨by rfl, ?_⟩) (by assumption) ?_
  rotate_left
  · intro W hSW
    try dsimp only at hSW
    have ng := hSW.2
    have g1 := hSW.1.cell b1 nq
    have g2 := hSW.1.cell b2 nq
    have g3 := hSW.1.cell b3 nq
    have h0 := hSW.1.cell ar0 nr
    have h1 := hSW.1.cell ar1 nr
    have h2 := hSW.1.cell ar2 nr
    go_simp
    try with_reducible rfl
  try simp only [Act.put, List.setIfInBounds_toArray, List.set_cons_zero, List.set_cons_succ]
  refine take_at (i := 13) (d := 88) (v := ?_) rfl rfl (by kernel_rfl) (by kernel_rfl) (by kernel_rfl) (fun _ _ _ h => h) (Or.inl ⟨by rfl, ?_⟩) (by assumption) ?_
  rotate_left
  · intro W hSW
    try dsimp only at hSW
    have ng := hSW.2
    have g1 := hSW.1.cell b1 nq
    have g2 := hSW.1.cell b2 nq
    have g3 := hSW.1.cell b3 nq
    have h0 := hSW.1.cell ar0 nr
    have h1 := hSW.1.cell ar1 nr
    have h2 := hSW.1.cell ar2 nr
    go_simp
    try with_reducible rfl
  try simp only [Act.put, List.setIfInBounds_toArray, List.set_cons_zero, List.set_cons_succ]
  refine wpAnyH_ready (rs := [5, 14]) (by kernel_rfl) (by simp) ?_
  refine AllReadyH.cons rfl (fun K hK => ?_) ?_
  · go_simp
    refine hK.out _ _ (⟨Kp.drew _ _, t1⟩) (fun hHeld => ?_)
    clear hK K
    try simp only [Act.put, List.setIfInBounds_toArray, List.set_cons_zero, List.set_cons_succ]
    refine wpAnyH_ready (rs := [14]) (by kernel_rfl) (by simp) ?_
    refine AllReadyH.cons rfl (fun K hK => ?_) ?_
    · go_simp
      refine hK.out _ _ (⟨(Kp.drew _ _).then (Kp.alloc _ _ _), a1⟩) (fun hHeld => ?_)
      clear hK K
      try simp only [Act.put, List.setIfInBounds_toArray, List.set_cons_zero, List.set_cons_succ]
      refine wpAnyH_ready (rs := [15]) (by kernel_rfl) (by simp) ?_
      refine AllReadyH.cons rfl (fun K hK => ?_) ?_
      · refine hstep_app 90 (by rfl) (by rfl) (.tmp 80) (.tmp 89) 23 23 23 (by rfl) (by rfl) ov (.slice (some ⟨W.heap.size, 0, none⟩) 1 1) (by rfl) (by rfl) hrun ?_
        refine hK.out _ _ (⟨((Kp.drew _ _).then (Kp.alloc _ _ _)).then (Kp.ofGrown hg5 (fun k e _ => .inr e)), x1⟩) (fun hHeld => ?_)
        clear hK K
        try simp only [Act.put, List.setIfInBounds_toArray, List.set_cons_zero, List.set_cons_succ]
        refine take_at (i := 16) (d := 91) (v := ?_) rfl rfl (by kernel_rfl) (by kernel_rfl) (by kernel_rfl) (fun _ _ _ h => h) (Or.inl ⟨by rfl, ?_⟩) (by assumption) ?_
        rotate_left
        · intro W hSW
          try dsimp only at hSW
          go_simp
          try with_reducible rfl
        try simp only [Act.put, List.setIfInBounds_toArray, List.set_cons_zero, List.set_cons_succ]
        refine take_at (i := 17) (d := 92) (v := ?_) rfl rfl (by kernel_rfl) (by kernel_rfl) (by kernel_rfl) (fun _ _ _ h => h) (Or.inl ⟨by rfl, ?_⟩) (by assumption) ?_
        rotate_left
        · intro W hSW
          try dsimp only at hSW
          go_simp
          try with_reducible rfl
        try simp only [Act.put, List.setIfInBounds_toArray, List.set_cons_zero, List.set_cons_succ]
        refine take_at (i := 18) (d := 93) (v := ?_) rfl rfl (by kernel_rfl) (by kernel_rfl) (by kernel_rfl) (fun _ _ _ h => h) (Or.inl ⟨by rfl, ?_⟩) (by assumption) ?_
        rotate_left
        · intro W hSW
          try dsimp only at hSW
          go_simp
          try with_reducible rfl
        try simp only [Act.put, List.setIfInBounds_toArray, List.set_cons_zero, List.set_cons_succ]
        refine wpAnyH_ready (rs := [19]) (by kernel_rfl) (by simp) ?_
        refine AllReadyH.cons rfl (fun K hK => ?_) ?_
        · go_simp
          refine hK.out _ _ (⟨(((Kp.drew _ _).then (Kp.alloc _ _ _)).then (Kp.ofGrown hg5 (fun k e _ => .inr e))).then (Kp.setCell w5 g 3 _ (.inl rfl)), HP.out.tb.c1⟩) (fun hHeld => ?_)
          clear hK K
          try simp only [Act.put, List.setIfInBounds_toArray, List.set_cons_zero, List.set_cons_succ]
          refine wpAnyH_done (by kernel_rfl) ?_ _
          have c5 := HP.out.tb.c3
          have k5 := HP.out.tb.c13
          have kf := HP.out.tb.fz 13
          generalize w5.setCell ⟨g, 3, none⟩ (.slice (some ⟨pr, 0, none⟩) N pcap) = W6 at *
          by_cases hs : S.ou.length + 1 ≤ 4
          · have hz : ¬ (4 : Int) < (N : Int) := by have := HN.out; omega
            have e := HR.out
            rw [if_pos hs] at e
            subst e
            have hB := HP.out.sBd false
            go_wp2
            go_end0
            exact ⟨rfl, ⟨_, _, _, _, hB.1⟩, HK5.out.then (kp_of hB.2 HP.out.gB)⟩
          · have hz : (4 : Int) < (N : Int) := by have := HN.out; omega
            have e := HR.out
            rw [if_neg hs] at e
            subst e
            have hB := HP.out.sBd true
            go_wp2
            go_end0
            exact ⟨rfl, ⟨_, _, _, _, _, _, _, _, hB.1⟩, HK5.out.then (kp_of hB.2 HP.out.gB)⟩
        exact AllReadyH.nil
      exact AllReadyH.nil
    exact AllReadyH.nil
  refine AllReadyH.cons rfl (fun K hK => ?_) ?_
  · go_simp
    refine hK.out _ _ (⟨(Kp.drew _ _).then (Kp.alloc _ _ _), a1⟩) (fun hHeld => ?_)
    clear hK K
    try simp only [Act.put, List.setIfInBounds_toArray, List.set_cons_zero, List.set_cons_succ]
    refine wpAnyH_ready (rs := [5]) (by kernel_rfl) (by simp) ?_
    refine AllReadyH.cons rfl (fun K hK => ?_) ?_
    · go_simp
      refine hK.out _ _ (⟨(Kp.drew _ _).then (Kp.alloc _ _ _), a1⟩) (fun hHeld => ?_)
      clear hK K
      try simp only [Act.put, List.setIfInBounds_toArray, List.set_cons_zero, List.set_cons_succ]
      refine wpAnyH_ready (rs := [15]) (by kernel_rfl) (by simp) ?_
      refine AllReadyH.cons rfl (fun K hK => ?_) ?_
      · refine hstep_app 90 (by rfl) (by rfl) (.tmp 80) (.tmp 89) 23 23 23 (by rfl) (by rfl) ov (.slice (some ⟨W.heap.size, 0, none⟩) 1 1) (by rfl) (by rfl) hrun ?_
        refine hK.out _ _ (⟨((Kp.drew _ _).then (Kp.alloc _ _ _)).then (Kp.ofGrown hg5 (fun k e _ => .inr e)), x1⟩) (fun hHeld => ?_)
        clear hK K
        try simp only [Act.put, List.setIfInBounds_toArray, List.set_cons_zero, List.set_cons_succ]
        refine take_at (i := 16) (d := 91) (v := ?_) rfl rfl (by kernel_rfl) (by kernel_rfl) (by kernel_rfl) (fun _ _ _ h => h) (Or.inl ⟨by rfl, ?_⟩) (by assumption) ?_
        rotate_left
        · intro W hSW
          try dsimp only at hSW
          go_simp
          try with_reducible rfl
        try simp only [Act.put, List.setIfInBounds_toArray, List.set_cons_zero, List.set_cons_succ]
        refine take_at (i := 17) (d := 92) (v := ?_) rfl rfl (by kernel_rfl) (by kernel_rfl) (by kernel_rfl) (fun _ _ _ h => h) (Or.inl ⟨by rfl, ?_⟩) (by assumption) ?_
        rotate_left
        · intro W hSW
          try dsimp only at hSW
          go_simp
          try with_reducible rfl
        try simp only [Act.put, List.setIfInBounds_toArray, List.set_cons_zero, List.set_cons_succ]
        refine take_at (i := 18) (d := 93) (v := ?_) rfl rfl (by kernel_rfl) (by kernel_rfl) (by kernel_rfl) (fun _ _ _ h => h) (Or.inl ⟨by rfl, ?_⟩) (by assumption) ?_
        rotate_left
        · intro W hSW
          try dsimp only at hSW
          go_simp
          try with_reducible rfl
        try simp only [Act.put, List.setIfInBounds_toArray, List.set_cons_zero, List.set_cons_succ]
        refine wpAnyH_ready (rs := [19]) (by kernel_rfl) (by simp) ?_
        refine AllReadyH.cons rfl (fun K hK => ?_) ?_
        · go_simp
          refine hK.out _ _ (⟨(((Kp.drew _ _).then (Kp.alloc _ _ _)).then (Kp.ofGrown hg5 (fun k e _ => .inr e))).then (Kp.setCell w5 g 3 _ (.inl rfl)), HP.out.tb.c1⟩) (fun hHeld => ?_)
          clear hK K
          try simp only [Act.put, List.setIfInBounds_toArray, List.set_cons_zero, List.set_cons_succ]
          refine wpAnyH_done (by kernel_rfl) ?_ _
          have c5 := HP.out.tb.c3
          have k5 := HP.out.tb.c13
          have kf := HP.out.tb.fz 13
          generalize w5.setCell ⟨g, 3, none⟩ (.slice (some ⟨pr, 0, none⟩) N pcap) = W6 at *
          by_cases hs : S.ou.length + 1 ≤ 4
          · have hz : ¬ (4 : Int) < (N : Int) := by have := HN.out; omega
            have e := HR.out
            rw [if_pos hs] at e
            subst e
            have hB := HP.out.sBd false
            go_wp2
            go_end0
            exact ⟨rfl, ⟨_, _, _, _, hB.1⟩, HK5.out.then (kp_of hB.2 HP.out.gB)⟩
          · have hz : (4 : Int) < (N : Int) := by have := HN.out; omega
            have e := HR.out
            rw [if_neg hs] at e
            subst e
            have hB := HP.out.sBd true
            go_wp2
            go_end0
            exact ⟨rfl, ⟨_, _, _, _, _, _, _, _, hB.1⟩, HK5.out.then (kp_of hB.2 HP.out.gB)⟩
        exact AllReadyH.nil
      exact AllReadyH.nil
    exact AllReadyH.nil
  exact AllReadyH.nil

end Go.Proofs.YtpoahegccjgnjaaGreatDoor

namespace Go.Proofs.YtpoahegccjgnjaaGreatDoor
open Go Go.RowKit
set_option linter.unusedVariables false

set_option maxRecDepth 100000 in
set_option maxHeartbeats 4000000 in
theorem xeff_child (B : Bd) (g : Nat) (tv rv pv ov kv : Value) (S : Ms) (x : V) (b : Nat) (c : Nat) (lb : b < 6) (lc : c < 6) (a : Int) (w : World) (hM : Xm B w g tv S 0 zV false false rv pv ov kv) (h6 : S.rg.length = 6) (hp0 : 0 ≤ S.pc) (hp1 : S.pc ≤ 1000) (ho : S.ki.length ≤ 100) :
    Calls Tryz.prog 47 #[.pointer (some ⟨g, 0, none⟩), (⟨16, a, (b : Int), (c : Int), x⟩ : In).val] w fun e w' => XP B w g tv (if S.ki.length + 1 ≤ 2 then Rs.go ⟨S.pc, S.rg, S.pu, S.ou, S.ki ++ [Sp.mk a (S.at (b : Int)) (S.at (c : Int))], S.sl⟩ else Rs.bad) e w' := by
  obtain ⟨r, cap, rfl, hBr, hr, hrg⟩ := xt_cells hM h6
  have hgb := World.grownBy_alloc w (.cells #[.int .i64 16, .int .i64 a, .int .i64 (b : Int), .int .i64 (c : Int), .int .i64 x.k, .int .i64 x.n, .string x.s] 44) none
  have hb : Ib (w.alloc (.cells #[.int .i64 16, .int .i64 a, .int .i64 (b : Int), .int .i64 (c : Int), .int .i64 x.k, .int .i64 x.n, .string x.s] 44)) w.heap.size ⟨16, a, (b : Int), (c : Int), x⟩ := Ib.new w ⟨16, a, (b : Int), (c : Int), x⟩
  have hM1 := hM.keptN hgb
  have lb' : (b : Int) < 6 := by omega
  have lc' : (c : Int) < 6 := by omega
  obtain ⟨R, HR⟩ : ∃ R, Hid ((if S.ki.length + 1 ≤ 2 then Rs.go ⟨S.pc, S.rg, S.pu, S.ou, S.ki ++ [Sp.mk a (S.at (b : Int)) (S.at (c : Int))], S.sl⟩ else Rs.bad) = R) := ⟨_, rfl⟩
  rw [HR.out]
  unfold In.val
  dsimp only
  go_enter Tryz.func47, Tryz.ntmps47
  go_upto_region 1 with fail
  have HG1 := hide (kp_n (B := B) hgb)
  generalize w.alloc (.cells #[.int .i64 16, .int .i64 a, .int .i64 (b : Int), .int .i64 (c : Int), .int .i64 x.k, .int .i64 x.n, .string x.s] 44) = W at *
  have hqg : g < w.heap.size := hM.lt
  generalize hq : w.heap.size = q at *
  obtain ⟨b0, b1, b2, b3, b4, b5, b6⟩ := hb.cs
  dsimp only at b0 b1 b2 b3 b4 b5 b6
  have t1 := hM1.tb.c1
  obtain ⟨br0, br1, br2, rf⟩ := xg_cells hM1 h6 b lb
  obtain ⟨cr0, cr1, cr2, rf⟩ := xg_cells hM1 h6 c lc
  have nq : ¬ (q = g ∨ kv.ownBlock = some q) := fun e => by
    rcases e with e | e
    · omega
    · have := (hM.ki.lt q e).2; omega
  have nr : ¬ (r = g ∨ kv.ownBlock = some r) := fun e => by
    rcases e with e | e
    · exact hrg e
    · exact (hM1.ap.r r rfl).2.2.2 e
  go_upto_region 15 with fail
  obtain ⟨N, HN⟩ : ∃ N, Hid (S.ki.length + 1 = N) := ⟨_, rfl⟩
  have hga3 : W.grownBy (World.alloc (World.drew W) (.cells #[.int .i64 a, .int .i64 (S.at (b : Int)).k, .int .i64 (S.at (b : Int)).n, .string (S.at (b : Int)).s, .int .i64 (S.at (c : Int)).k, .int .i64 (S.at (c : Int)).n, .string (S.at (c : Int)).s] 64)) none := grown_up (grown_dr W) (World.grownBy_alloc _ (.cells #[.int .i64 a, .int .i64 (S.at (b : Int)).k, .int .i64 (S.at (b : Int)).n, .string (S.at (b : Int)).s, .int .i64 (S.at (c : Int)).k, .int .i64 (S.at (c : Int)).n, .string (S.at (c : Int)).s] 64) none)
  have hMB := hM1.keptN hga3
  have hheap : (World.alloc (World.drew W) (.cells #[.int .i64 a, .int .i64 (S.at (b : Int)).k, .int .i64 (S.at (b : Int)).n, .string (S.at (b : Int)).s, .int .i64 (S.at (c : Int)).k, .int .i64 (S.at (c : Int)).n, .string (S.at (c : Int)).s] 64)).heap[W.heap.size]? = some (.cells (Sp.cells (Sp.mk a (S.at (b : Int)) (S.at (c : Int)))).toArray 64 (0, 0)) := heap_alloc_new (World.drew W) (.cells #[.int .i64 a, .int .i64 (S.at (b : Int)).k, .int .i64 (S.at (b : Int)).n, .string (S.at (b : Int)).s, .int .i64 (S.at (c : Int)).k, .int .i64 (S.at (c : Int)).n, .string (S.at (c : Int)).s] 64)
  obtain ⟨pr, pcap, w5, hrun, hO5, hg5, hw5⟩ := app_oneR clS (by omega) 28 64 Tryz.underlying28 (.agg #[.int .i64 0, .int .i64 0, .int .i64 0, .string ByteArray.empty, .int .i64 0, .int .i64 0, .string ByteArray.empty]) 72 infoS (by rfl) (by omega) (World.alloc (World.drew W) (.cells #[.int .i64 a, .int .i64 (S.at (b : Int)).k, .int .i64 (S.at (b : Int)).n, .string (S.at (b : Int)).s, .int .i64 (S.at (c : Int)).k, .int .i64 (S.at (c : Int)).n, .string (S.at (c : Int)).s] 64)) B.1 kv S.ki (Sp.mk a (S.at (b : Int)) (S.at (c : Int))) W.heap.size hMB.ki hheap (Nat.le_trans hM1.gB.1 (Nat.le_of_lt hMB.lt)) (by omega)
  have hP := hMB.appK hO5 hg5 hw5
  have ht5 := hMB.tb.kept hg5 (fun e => hMB.ap.k g e.symm rfl)
  have x4 := ht5.c4
  have x1 := ht5.c1
  have xf := ht5.fz 4
  have t4 := hM1.tb.c4
  have a4 := hMB.tb.c4
  have a1 := hMB.tb.c1
  have a4' : (World.alloc W (.cells #[.int .i64 a, .int .i64 (S.at (b : Int)).k, .int .i64 (S.at (b : Int)).n, .string (S.at (b : Int)).s, .int .i64 (S.at (c : Int)).k, .int .i64 (S.at (c : Int)).n, .string (S.at (c : Int)).s] 64)).cell? ⟨g, 4, none⟩ = some kv := a4
  rw [HN.out] at hrun hO5 hP
  have HK5 := hide ((HG1.out.then (kp_n (B := B) hga3)).then ((kp_bl hMB.kiB hg5).then (Kp.setCell w5 g 4 (.slice (some ⟨pr, 0, none⟩) N pcap) (show Bk B g from hM1.gB))))
  have HP := hide hP
  have HX := hide ht5
  refine wp_region_held_drew (S := fun W0 => Kp (fun k => k = g ∨ kv.ownBlock = some k) W W0 ∧ W0.cell? ⟨g, 1, none⟩ = some (.slice (some ⟨r, 0, none⟩) 6 cap)) (by kernel_rfl) (⟨Kp.drew _ _, t1⟩) (fun hHeld => ?_)
  refine take_at (i := 0) (d := 106) (v := ?_) rfl rfl (by kernel_rfl) (by kernel_rfl) (by kernel_rfl) (fun _ _ _ h => h) (Or.inl ⟨by rfl, ?_⟩) (by assumption) ?_
  rotate_left
  · intro W hSW
    try dsimp only at hSW
    have ng := hSW.2
    have g1 := hSW.1.cell b1 nq
    have g2 := hSW.1.cell b2 nq
    have g3 := hSW.1.cell b3 nq
    have hb0 := hSW.1.cell br0 nr
    have hb1 := hSW.1.cell br1 nr
    have hb2 := hSW.1.cell br2 nr
    have hc0 := hSW.1.cell cr0 nr
    have hc1 := hSW.1.cell cr1 nr
    have hc2 := hSW.1.cell cr2 nr
    go_simp
    try with_reducible rfl
  try simp only [Act.put, List.setIfInBounds_toArray, List.set_cons_zero, List.set_cons_succ]
  refine take_at (i := 1) (d := 107) (v := ?_) rfl rfl (by kernel_rfl) (by kernel_rfl) (by kernel_rfl) (fun _ _ _ h => h) (Or.inl ⟨by rfl, ?_⟩) (by assumption) ?_
  rotate_left
  · intro W hSW
    try dsimp only at hSW
    have ng := hSW.2
    have g1 := hSW.1.cell b1 nq
    have g2 := hSW.1.cell b2 nq
    have g3 := hSW.1.cell b3 nq
    have hb0 := hSW.1.cell br0 nr
    have hb1 := hSW.1.cell br1 nr
    have hb2 := hSW.1.cell br2 nr
    have hc0 := hSW.1.cell cr0 nr
    have hc1 := hSW.1.cell cr1 nr
    have hc2 := hSW.1.cell cr2 nr
    go_simp
    try with_reducible rfl
  try simp only [Act.put, List.setIfInBounds_toArray, List.set_cons_zero, List.set_cons_succ]
  refine take_at (i := 2) (d := 108) (v := ?_) rfl rfl (by kernel_rfl) (by kernel_rfl) (by kernel_rfl) (fun _ _ _ h => h) (Or.inl ⟨by rfl, ?_⟩) (by assumption) ?_
  rotate_left
  · intro W hSW
    try dsimp only at hSW
    have ng := hSW.2
    have g1 := hSW.1.cell b1 nq
    have g2 := hSW.1.cell b2 nq
    have g3 := hSW.1.cell b3 nq
    have hb0 := hSW.1.cell br0 nr
    have hb1 := hSW.1.cell br1 nr
    have hb2 := hSW.1.cell br2 nr
    have hc0 := hSW.1.cell cr0 nr
    have hc1 := hSW.1.cell cr1 nr
    have hc2 := hSW.1.cell cr2 nr
    go_simp
    try with_reducible rfl
  try simp only [Act.put, List.setIfInBounds_toArray, List.set_cons_zero, List.set_cons_succ]
  refine take_at (i := 3) (d := 109) (v := ?_) rfl rfl (by kernel_rfl) (by kernel_rfl) (by kernel_rfl) (fun _ _ _ h => h) (Or.inl ⟨by rfl, ?_⟩) (by assumption) ?_
  rotate_left
  · intro W hSW
    try dsimp only at hSW
    have ng := hSW.2
    have g1 := hSW.1.cell b1 nq
    have g2 := hSW.1.cell b2 nq
    have g3 := hSW.1.cell b3 nq
    have hb0 := hSW.1.cell br0 nr
    have hb1 := hSW.1.cell br1 nr
    have hb2 := hSW.1.cell br2 nr
    have hc0 := hSW.1.cell cr0 nr
    have hc1 := hSW.1.cell cr1 nr
    have hc2 := hSW.1.cell cr2 nr
    go_simp
    try with_reducible rfl
  try simp only [Act.put, List.setIfInBounds_toArray, List.set_cons_zero, List.set_cons_succ]
  refine take_at (i := 4) (d := 110) (v := ?_) rfl rfl (by kernel_rfl) (by kernel_rfl) (by kernel_rfl) (fun _ _ _ h => h) (Or.inl ⟨by rfl, ?_⟩) (by assumption) ?_
  rotate_left
  · intro W hSW
    try dsimp only at hSW
    have ng := hSW.2
    have g1 := hSW.1.cell b1 nq
    have g2 := hSW.1.cell b2 nq
    have g3 := hSW.1.cell b3 nq
    have hb0 := hSW.1.cell br0 nr
    have hb1 := hSW.1.cell br1 nr
    have hb2 := hSW.1.cell br2 nr
    have hc0 := hSW.1.cell cr0 nr
    have hc1 := hSW.1.cell cr1 nr
    have hc2 := hSW.1.cell cr2 nr
    go_simp
    try with_reducible rfl
  try simp only [Act.put, List.setIfInBounds_toArray, List.set_cons_zero, List.set_cons_succ]
  refine take_at (i := 6) (d := 112) (v := ?_) rfl rfl (by kernel_rfl) (by kernel_rfl) (by kernel_rfl) (fun _ _ _ h => h) (Or.inl ⟨by rfl, ?_⟩) (by assumption) ?_
  rotate_left
  · intro W hSW
    try dsimp only at hSW
    have ng := hSW.2
    have g1 := hSW.1.cell b1 nq
    have g2 := hSW.1.cell b2 nq
    have g3 := hSW.1.cell b3 nq
    have hb0 := hSW.1.cell br0 nr
    have hb1 := hSW.1.cell br1 nr
    have hb2 := hSW.1.cell br2 nr
    have hc0 := hSW.1.cell cr0 nr
    have hc1 := hSW.1.cell cr1 nr
    have hc2 := hSW.1.cell cr2 nr
    go_simp
    try with_reducible rfl
  try simp only [Act.put, List.setIfInBounds_toArray, List.set_cons_zero, List.set_cons_succ]
  refine take_at (i := 7) (d := 113) (v := ?_) rfl rfl (by kernel_rfl) (by kernel_rfl) (by kernel_rfl) (fun _ _ _ h => h) (Or.inl ⟨by rfl, ?_⟩) (by assumption) ?_
  rotate_left
  · intro W hSW
    try dsimp only at hSW
    have ng := hSW.2
    have g1 := hSW.1.cell b1 nq
    have g2 := hSW.1.cell b2 nq
    have g3 := hSW.1.cell b3 nq
    have hb0 := hSW.1.cell br0 nr
    have hb1 := hSW.1.cell br1 nr
    have hb2 := hSW.1.cell br2 nr
    have hc0 := hSW.1.cell cr0 nr
    have hc1 := hSW.1.cell cr1 nr
    have hc2 := hSW.1.cell cr2 nr
    go_simp
    try with_reducible rfl
  try simp only [Act.put, List.setIfInBounds_toArray, List.set_cons_zero, List.set_cons_succ]
  refine take_at (i := 8) (d := 114) (v := ?_) rfl rfl (by kernel_rfl) (by kernel_rfl) (by kernel_rfl) (fun _ _ _ h => h) (Or.inl ⟨by rfl, ?_⟩) (by assumption) ?_
  rotate_left
  · intro W hSW
    try dsimp only at hSW
    have ng := hSW.2
    have g1 := hSW.1.cell b1 nq
    have g2 := hSW.1.cell b2 nq
    have g3 := hSW.1.cell b3 nq
    have hb0 := hSW.1.cell br0 nr
    have hb1 := hSW.1.cell br1 nr
    have hb2 := hSW.1.cell br2 nr
    have hc0 := hSW.1.cell cr0 nr
    have hc1 := hSW.1.cell cr1 nr
    have hc2 := hSW.1.cell cr2 nr
    go_simp
    try with_reducible rfl
  try simp only [Act.put, List.setIfInBounds_toArray, List.set_cons_zero, List.set_cons_succ]
  refine take_at (i := 9) (d := 115) (v := ?_) rfl rfl (by kernel_rfl) (by kernel_rfl) (by kernel_rfl) (fun _ _ _ h => h) (Or.inl ⟨by rfl, ?_⟩) (by assumption) ?_
  rotate_left
  · intro W hSW
    try dsimp only at hSW
    have ng := hSW.2
    have g1 := hSW.1.cell b1 nq
    have g2 := hSW.1.cell b2 nq
    have g3 := hSW.1.cell b3 nq
    have hb0 := hSW.1.cell br0 nr
    have hb1 := hSW.1.cell br1 nr
    have hb2 := hSW.1.cell br2 nr
    have hc0 := hSW.1.cell cr0 nr
    have hc1 := hSW.1.cell cr1 nr
    have hc2 := hSW.1.cell cr2 nr
    go_simp
    try with_reducible rfl
  try simp only [Act.put, List.setIfInBounds_toArray, List.set_cons_zero, List.set_cons_succ]
  refine take_at (i := 10) (d := 116) (v := ?_) rfl rfl (by kernel_rfl) (by kernel_rfl) (by kernel_rfl) (fun _ _ _ h => h) (Or.inl ⟨by rfl, ?_⟩) (by assumption) ?_
  rotate_left
  · intro W hSW
    try dsimp only at hSW
    have ng := hSW.2
    have g1 := hSW.1.cell b1 nq
    have g2 := hSW.1.cell b2 nq
    have g3 := hSW.1.cell b3 nq
    have hb0 := hSW.1.cell br0 nr
    have hb1 := hSW.1.cell br1 nr
    have hb2 := hSW.1.cell br2 nr
    have hc0 := hSW.1.cell cr0 nr
    have hc1 := hSW.1.cell cr1 nr
    have hc2 := hSW.1.cell cr2 nr
    go_simp
    try with_reducible rfl
  try simp only [Act.put, List.setIfInBounds_toArray, List.set_cons_zero, List.set_cons_succ]
  refine take_at (i := 11) (d := 117) (v := ?_) rfl rfl (by kernel_rfl) (by kernel_rfl) (by kernel_rfl) (fun _ _ _ h => h) (Or.inl ⟨by rfl, ?_⟩) (by assumption) ?_
  rotate_left
  · intro W hSW
    try dsimp only at hSW
    have ng := hSW.2
    have g1 := hSW.1.cell b1 nq
    have g2 := hSW.1.cell b2 nq
    have g3 := hSW.1.cell b3 nq
    have hb0 := hSW.1.cell br0 nr
    have hb1 := hSW.1.cell br1 nr
    have hb2 := hSW.1.cell br2 nr
    have hc0 := hSW.1.cell cr0 nr
    have hc1 := hSW.1.cell cr1 nr
    have hc2 := hSW.1.cell cr2 nr
    go_simp
    try with_reducible rfl
  try simp only [Act.put, List.setIfInBounds_toArray, List.set_cons_zero, List.set_cons_succ]
  refine take_at (i := 12) (d := 118) (v := ?_) rfl rfl (by kernel_rfl) (by kernel_rfl) (by kernel_rfl) (fun _ _ _ h => h) (Or.inl ⟨by rfl, ?_⟩) (by assumption) ?_
  rotate_left
  · intro W hSW
    try dsimp only at hSW
    have ng := hSW.2
    have g1 := hSW.1.cell b1 nq
    have g2 := hSW.1.cell b2 nq
    have g3 := hSW.1.cell b3 nq
    have hb0 := hSW.1.cell br0 nr
    have hb1 := hSW.1.cell br1 nr
    have hb2 := hSW.1.cell br2 nr
    have hc0 := hSW.1.cell cr0 nr
    have hc1 := hSW.1.cell cr1 nr
    have hc2 := hSW.1.cell cr2 nr
    go_simp
    try with_reducible rfl
  try simp only [Act.put, List.setIfInBounds_toArray, List.set_cons_zero, List.set_cons_succ]
  refine take_at (i := 13) (d := 119) (v := ?_) rfl rfl (by kernel_rfl) (by kernel_rfl) (by kernel_rfl) (fun _ _ _ h => h) (Or.inl ⟨by rfl, ?_⟩) (by assumption) ?_
  rotate_left
  · intro W hSW
    try dsimp only at hSW
    have ng := hSW.2
    have g1 := hSW.1.cell b1 nq
    have g2 := hSW.1.cell b2 nq
    have g3 := hSW.1.cell b3 nq
    have hb0 := hSW.1.cell br0 nr
    have hb1 := hSW.1.cell br1 nr
    have hb2 := hSW.1.cell br2 nr
    have hc0 := hSW.1.cell cr0 nr
    have hc1 := hSW.1.cell cr1 nr
    have hc2 := hSW.1.cell cr2 nr
    go_simp
    try with_reducible rfl
  try simp only [Act.put, List.setIfInBounds_toArray, List.set_cons_zero, List.set_cons_succ]
  refine take_at (i := 14) (d := 120) (v := ?_) rfl rfl (by kernel_rfl) (by kernel_rfl) (by kernel_rfl) (fun _ _ _ h => h) (Or.inl ⟨by rfl, ?_⟩) (by assumption) ?_
  rotate_left
  · intro W hSW
    try dsimp only at hSW
    have ng := hSW.2
    have g1 := hSW.1.cell b1 nq
    have g2 := hSW.1.cell b2 nq
    have g3 := hSW.1.cell b3 nq
    have hb0 := hSW.1.cell br0 nr
    have hb1 := hSW.1.cell br1 nr
    have hb2 := hSW.1.cell br2 nr
    have hc0 := hSW.1.cell cr0 nr
    have hc1 := hSW.1.cell cr1 nr
    have hc2 := hSW.1.cell cr2 nr
    go_simp
    try with_reducible rfl
  try simp only [Act.put, List.setIfInBounds_toArray, List.set_cons_zero, List.set_cons_succ]
  refine take_at (i := 15) (d := 121) (v := ?_) rfl rfl (by kernel_rfl) (by kernel_rfl) (by kernel_rfl) (fun _ _ _ h => h) (Or.inl ⟨by rfl, ?_⟩) (by assumption) ?_
  rotate_left
  · intro W hSW
    try dsimp only at hSW
    have ng := hSW.2
    have g1 := hSW.1.cell b1 nq
    have g2 := hSW.1.cell b2 nq
    have g3 := hSW.1.cell b3 nq
    have hb0 := hSW.1.cell br0 nr
    have hb1 := hSW.1.cell br1 nr
    have hb2 := hSW.1.cell br2 nr
    have hc0 := hSW.1.cell cr0 nr
    have hc1 := hSW.1.cell cr1 nr
    have hc2 := hSW.1.cell cr2 nr
    go_simp
    try with_reducible rfl
  try simp only [Act.put, List.setIfInBounds_toArray, List.set_cons_zero, List.set_cons_succ]
  refine take_at (i := 16) (d := 122) (v := ?_) rfl rfl (by kernel_rfl) (by kernel_rfl) (by kernel_rfl) (fun _ _ _ h => h) (Or.inl ⟨by rfl, ?_⟩) (by assumption) ?_
  rotate_left
  · intro W hSW
    try dsimp only at hSW
    have ng := hSW.2
    have g1 := hSW.1.cell b1 nq
    have g2 := hSW.1.cell b2 nq
    have g3 := hSW.1.cell b3 nq
    have hb0 := hSW.1.cell br0 nr
    have hb1 := hSW.1.cell br1 nr
    have hb2 := hSW.1.cell br2 nr
    have hc0 := hSW.1.cell cr0 nr
    have hc1 := hSW.1.cell cr1 nr
    have hc2 := hSW.1.cell cr2 nr
    go_simp
    try with_reducible rfl
  try simp only [Act.put, List.setIfInBounds_toArray, List.set_cons_zero, List.set_cons_succ]
  refine take_at (i := 17) (d := 123) (v := ?_) rfl rfl (by kernel_rfl) (by kernel_rfl) (by kernel_rfl) (fun _ _ _ h => h) (Or.inl ⟨by rfl, ?_⟩) (by assumption) ?_
  rotate_left
  · intro W hSW
    try dsimp only at hSW
    have ng := hSW.2
    have g1 := hSW.1.cell b1 nq
    have g2 := hSW.1.cell b2 nq
    have g3 := hSW.1.cell b3 nq
    have hb0 := hSW.1.cell br0 nr
    have hb1 := hSW.1.cell br1 nr
    have hb2 := hSW.1.cell br2 nr
    have hc0 := hSW.1.cell cr0 nr
    have hc1 := hSW.1.cell cr1 nr
    have hc2 := hSW.1.cell cr2 nr
    go_simp
    try with_reducible rfl
  try simp only [Act.put, List.setIfInBounds_toArray, List.set_cons_zero, List.set_cons_succ]
  refine take_at (i := 18) (d := 124) (v := ?_) rfl rfl (by kernel_rfl) (by kernel_rfl) (by kernel_rfl) (fun _ _ _ h => h) (Or.inl ⟨by rfl, ?_⟩) (by assumption) ?_
  rotate_left
  · intro W hSW
    try dsimp only at hSW
    have ng := hSW.2
    have g1 := hSW.1.cell b1 nq
    have g2 := hSW.1.cell b2 nq
    have g3 := hSW.1.cell b3 nq
    have hb0 := hSW.1.cell br0 nr
    have hb1 := hSW.1.cell br1 nr
    have hb2 := hSW.1.cell br2 nr
    have hc0 := hSW.1.cell cr0 nr
    have hc1 := hSW.1.cell cr1 nr
    have hc2 := hSW.1.cell cr2 nr
    go_simp
    try with_reducible rfl
  try simp only [Act.put, List.setIfInBounds_toArray, List.set_cons_zero, List.set_cons_succ]
  refine take_at (i := 19) (d := 125) (v := ?_) rfl rfl (by kernel_rfl) (by kernel_rfl) (by kernel_rfl) (fun _ _ _ h => h) (Or.inl ⟨by rfl, ?_⟩) (by assumption) ?_
  rotate_left
  · intro W hSW
    try dsimp only at hSW
    have ng := hSW.2
    have g1 := hSW.1.cell b1 nq
    have g2 := hSW.1.cell b2 nq
    have g3 := hSW.1.cell b3 nq
    have hb0 := hSW.1.cell br0 nr
    have hb1 := hSW.1.cell br1 nr
    have hb2 := hSW.1.cell br2 nr
    have hc0 := hSW.1.cell cr0 nr
    have hc1 := hSW.1.cell cr1 nr
    have hc2 := hSW.1.cell cr2 nr
    go_simp
    try with_reducible rfl
  try simp only [Act.put, List.setIfInBounds_toArray, List.set_cons_zero, List.set_cons_succ]
  refine take_at (i := 20) (d := 126) (v := ?_) rfl rfl (by kernel_rfl) (by kernel_rfl) (by kernel_rfl) (fun _ _ _ h => h) (Or.inl ⟨by rfl, ?_⟩) (by assumption) ?_
  rotate_left
  · intro W hSW
    try dsimp only at hSW
    have ng := hSW.2
    have g1 := hSW.1.cell b1 nq
    have g2 := hSW.1.cell b2 nq
    have g3 := hSW.1.cell b3 nq
    have hb0 := hSW.1.cell br0 nr
    have hb1 := hSW.1.cell br1 nr
    have hb2 := hSW.1.cell br2 nr
    have hc0 := hSW.1.cell cr0 nr
    have hc1 := hSW.1.cell cr1 nr
    have hc2 := hSW.1.cell cr2 nr
    go_simp
    try with_reducible rfl
  try simp only [Act.put, List.setIfInBounds_toArray, List.set_cons_zero, List.set_cons_succ]
  refine take_at (i := 21) (d := 127) (v := ?_) rfl rfl (by kernel_rfl) (by kernel_rfl) (by kernel_rfl) (fun _ _ _ h => h) (Or.inl ⟨by rfl, ?_⟩) (by assumption) ?_
  rotate_left
  · intro W hSW
    try dsimp only at hSW
    have ng := hSW.2
    have g1 := hSW.1.cell b1 nq
    have g2 := hSW.1.cell b2 nq
    have g3 := hSW.1.cell b3 nq
    have hb0 := hSW.1.cell br0 nr
    have hb1 := hSW.1.cell br1 nr
    have hb2 := hSW.1.cell br2 nr
    have hc0 := hSW.1.cell cr0 nr
    have hc1 := hSW.1.cell cr1 nr
    have hc2 := hSW.1.cell cr2 nr
    go_simp
    try with_reducible rfl
  try simp only [Act.put, List.setIfInBounds_toArray, List.set_cons_zero, List.set_cons_succ]
  refine take_at (i := 22) (d := 128) (v := ?_) rfl rfl (by kernel_rfl) (by kernel_rfl) (by kernel_rfl) (fun _ _ _ h => h) (Or.inl ⟨by rfl, ?_⟩) (by assumption) ?_
  rotate_left
  · intro W hSW
    try dsimp only at hSW
    have ng := hSW.2
    have g1 := hSW.1.cell b1 nq
    have g2 := hSW.1.cell b2 nq
    have g3 := hSW.1.cell b3 nq
    have hb0 := hSW.1.cell br0 nr
    have hb1 := hSW.1.cell br1 nr
    have hb2 := hSW.1.cell br2 nr
    have hc0 := hSW.1.cell cr0 nr
    have hc1 := hSW.1.cell cr1 nr
    have hc2 := hSW.1.cell cr2 nr
    go_simp
    try with_reducible rfl
  try simp only [Act.put, List.setIfInBounds_toArray, List.set_cons_zero, List.set_cons_succ]
  refine take_at (i := 23) (d := 129) (v := ?_) rfl rfl (by kernel_rfl) (by kernel_rfl) (by kernel_rfl) (fun _ _ _ h => h) (Or.inl ⟨by rfl, ?_⟩) (by assumption) ?_
  rotate_left
  · intro W hSW
    try dsimp only at hSW
    have ng := hSW.2
    have g1 := hSW.1.cell b1 nq
    have g2 := hSW.1.cell b2 nq
    have g3 := hSW.1.cell b3 nq
    have hb0 := hSW.1.cell br0 nr
    have hb1 := hSW.1.cell br1 nr
    have hb2 := hSW.1.cell br2 nr
    have hc0 := hSW.1.cell cr0 nr
    have hc1 := hSW.1.cell cr1 nr
    have hc2 := hSW.1.cell cr2 nr
    go_simp
    try with_reducible rfl
  try simp only [Act.put, List.setIfInBounds_toArray, List.set_cons_zero, List.set_cons_succ]
  refine take_at (i := 24) (d := 130) (v := ?_) rfl rfl (by kernel_rfl) (by kernel_rfl) (by kernel_rfl) (fun _ _ _ h => h) (Or.inl ⟨by rfl, ?_⟩) (by assumption) ?_
  rotate_left
  · intro W hSW
    try dsimp only at hSW
    have ng := hSW.2
    have g1 := hSW.1.cell b1 nq
    have g2 := hSW.1.cell b2 nq
    have g3 := hSW.1.cell b3 nq
    have hb0 := hSW.1.cell br0 nr
    have hb1 := hSW.1.cell br1 nr
    have hb2 := hSW.1.cell br2 nr
    have hc0 := hSW.1.cell cr0 nr
    have hc1 := hSW.1.cell cr1 nr
    have hc2 := hSW.1.cell cr2 nr
    go_simp
    try with_reducible rfl
  try simp only [Act.put, List.setIfInBounds_toArray, List.set_cons_zero, List.set_cons_succ]
  refine wpAnyH_ready (rs := [5, 25]) (by kernel_rfl) (by simp) ?_
  refine AllReadyH.cons rfl (fun K hK => ?_) ?_
  · go_simp
    refine hK.out _ _ (⟨Kp.drew _ _, t1⟩) (fun hHeld => ?_)
    clear hK K
    try simp only [Act.put, List.setIfInBounds_toArray, List.set_cons_zero, List.set_cons_succ]
    refine wpAnyH_ready (rs := [25]) (by kernel_rfl) (by simp) ?_
    refine AllReadyH.cons rfl (fun K hK => ?_) ?_
    · go_simp
      refine hK.out _ _ (⟨(Kp.drew _ _).then (Kp.alloc _ _ _), a1⟩) (fun hHeld => ?_)
      clear hK K
      try simp only [Act.put, List.setIfInBounds_toArray, List.set_cons_zero, List.set_cons_succ]
      refine wpAnyH_ready (rs := [26]) (by kernel_rfl) (by simp) ?_
      refine AllReadyH.cons rfl (fun K hK => ?_) ?_
      · refine hstep_app 132 (by rfl) (by rfl) (.tmp 111) (.tmp 131) 28 28 28 (by rfl) (by rfl) kv (.slice (some ⟨W.heap.size, 0, none⟩) 1 1) (by rfl) (by rfl) hrun ?_
        refine hK.out _ _ (⟨((Kp.drew _ _).then (Kp.alloc _ _ _)).then (Kp.ofGrown hg5 (fun k e _ => .inr e)), x1⟩) (fun hHeld => ?_)
        clear hK K
        try simp only [Act.put, List.setIfInBounds_toArray, List.set_cons_zero, List.set_cons_succ]
        refine take_at (i := 27) (d := 133) (v := ?_) rfl rfl (by kernel_rfl) (by kernel_rfl) (by kernel_rfl) (fun _ _ _ h => h) (Or.inl ⟨by rfl, ?_⟩) (by assumption) ?_
        rotate_left
        · intro W hSW
          try dsimp only at hSW
          go_simp
          try with_reducible rfl
        try simp only [Act.put, List.setIfInBounds_toArray, List.set_cons_zero, List.set_cons_succ]
        refine take_at (i := 28) (d := 134) (v := ?_) rfl rfl (by kernel_rfl) (by kernel_rfl) (by kernel_rfl) (fun _ _ _ h => h) (Or.inl ⟨by rfl, ?_⟩) (by assumption) ?_
        rotate_left
        · intro W hSW
          try dsimp only at hSW
          go_simp
          try with_reducible rfl
        try simp only [Act.put, List.setIfInBounds_toArray, List.set_cons_zero, List.set_cons_succ]
        refine take_at (i := 29) (d := 135) (v := ?_) rfl rfl (by kernel_rfl) (by kernel_rfl) (by kernel_rfl) (fun _ _ _ h => h) (Or.inl ⟨by rfl, ?_⟩) (by assumption) ?_
        rotate_left
        · intro W hSW
          try dsimp only at hSW
          go_simp
          try with_reducible rfl
        try simp only [Act.put, List.setIfInBounds_toArray, List.set_cons_zero, List.set_cons_succ]
        refine wpAnyH_ready (rs := [30]) (by kernel_rfl) (by simp) ?_
        refine AllReadyH.cons rfl (fun K hK => ?_) ?_
        · go_simp
          refine hK.out _ _ (⟨(((Kp.drew _ _).then (Kp.alloc _ _ _)).then (Kp.ofGrown hg5 (fun k e _ => .inr e))).then (Kp.setCell w5 g 4 _ (.inl rfl)), HP.out.tb.c1⟩) (fun hHeld => ?_)
          clear hK K
          try simp only [Act.put, List.setIfInBounds_toArray, List.set_cons_zero, List.set_cons_succ]
          refine wpAnyH_done (by kernel_rfl) ?_ _
          have c5 := HP.out.tb.c4
          have k5 := HP.out.tb.c13
          have kf := HP.out.tb.fz 13
          generalize w5.setCell ⟨g, 4, none⟩ (.slice (some ⟨pr, 0, none⟩) N pcap) = W6 at *
          by_cases hs : S.ki.length + 1 ≤ 2
          · have hz : ¬ (2 : Int) < (N : Int) := by have := HN.out; omega
            have e := HR.out
            rw [if_pos hs] at e
            subst e
            have hB := HP.out.sBd false
            go_wp2
            go_end0
            exact ⟨rfl, ⟨_, _, _, _, hB.1⟩, HK5.out.then (kp_of hB.2 HP.out.gB)⟩
          · have hz : (2 : Int) < (N : Int) := by have := HN.out; omega
            have e := HR.out
            rw [if_neg hs] at e
            subst e
            have hB := HP.out.sBd true
            go_wp2
            go_end0
            exact ⟨rfl, ⟨_, _, _, _, _, _, _, _, hB.1⟩, HK5.out.then (kp_of hB.2 HP.out.gB)⟩
        exact AllReadyH.nil
      exact AllReadyH.nil
    exact AllReadyH.nil
  refine AllReadyH.cons rfl (fun K hK => ?_) ?_
  · go_simp
    refine hK.out _ _ (⟨(Kp.drew _ _).then (Kp.alloc _ _ _), a1⟩) (fun hHeld => ?_)
    clear hK K
    try simp only [Act.put, List.setIfInBounds_toArray, List.set_cons_zero, List.set_cons_succ]
    refine wpAnyH_ready (rs := [5]) (by kernel_rfl) (by simp) ?_
    refine AllReadyH.cons rfl (fun K hK => ?_) ?_
    · go_simp
      refine hK.out _ _ (⟨(Kp.drew _ _).then (Kp.alloc _ _ _), a1⟩) (fun hHeld => ?_)
      clear hK K
      try simp only [Act.put, List.setIfInBounds_toArray, List.set_cons_zero, List.set_cons_succ]
      refine wpAnyH_ready (rs := [26]) (by kernel_rfl) (by simp) ?_
      refine AllReadyH.cons rfl (fun K hK => ?_) ?_
      · refine hstep_app 132 (by rfl) (by rfl) (.tmp 111) (.tmp 131) 28 28 28 (by rfl) (by rfl) kv (.slice (some ⟨W.heap.size, 0, none⟩) 1 1) (by rfl) (by rfl) hrun ?_
        refine hK.out _ _ (⟨((Kp.drew _ _).then (Kp.alloc _ _ _)).then (Kp.ofGrown hg5 (fun k e _ => .inr e)), x1⟩) (fun hHeld => ?_)
        clear hK K
        try simp only [Act.put, List.setIfInBounds_toArray, List.set_cons_zero, List.set_cons_succ]
        refine take_at (i := 27) (d := 133) (v := ?_) rfl rfl (by kernel_rfl) (by kernel_rfl) (by kernel_rfl) (fun _ _ _ h => h) (Or.inl ⟨by rfl, ?_⟩) (by assumption) ?_
        rotate_left
        · intro W hSW
          try dsimp only at hSW
          go_simp
          try with_reducible rfl
        try simp only [Act.put, List.setIfInBounds_toArray, List.set_cons_zero, List.set_cons_succ]
        refine take_at (i := 28) (d := 134) (v := ?_) rfl rfl (by kernel_rfl) (by kernel_rfl) (by kernel_rfl) (fun _ _ _ h => h) (Or.inl ⟨by rfl, ?_⟩) (by assumption) ?_
        rotate_left
        · intro W hSW
          try dsimp only at hSW
          go_simp
          try with_reducible rfl
        try simp only [Act.put, List.setIfInBounds_toArray, List.set_cons_zero, List.set_cons_succ]
        refine take_at (i := 29) (d := 135) (v := ?_) rfl rfl (by kernel_rfl) (by kernel_rfl) (by kernel_rfl) (fun _ _ _ h => h) (Or.inl ⟨by rfl, ?_⟩) (by assumption) ?_
        rotate_left
        · intro W hSW
          try dsimp only at hSW
          go_simp
          try with_reducible rfl
        try simp only [Act.put, List.setIfInBounds_toArray, List.set_cons_zero, List.set_cons_succ]
        refine wpAnyH_ready (rs := [30]) (by kernel_rfl) (by simp) ?_
        refine AllReadyH.cons rfl (fun K hK => ?_) ?_
        · go_simp
          refine hK.out _ _ (⟨(((Kp.drew _ _).then (Kp.alloc _ _ _)).then (Kp.ofGrown hg5 (fun k e _ => .inr e))).then (Kp.setCell w5 g 4 _ (.inl rfl)), HP.out.tb.c1⟩) (fun hHeld => ?_)
          clear hK K
          try simp only [Act.put, List.setIfInBounds_toArray, List.set_cons_zero, List.set_cons_succ]
          refine wpAnyH_done (by kernel_rfl) ?_ _
          have c5 := HP.out.tb.c4
          have k5 := HP.out.tb.c13
          have kf := HP.out.tb.fz 13
          generalize w5.setCell ⟨g, 4, none⟩ (.slice (some ⟨pr, 0, none⟩) N pcap) = W6 at *
          by_cases hs : S.ki.length + 1 ≤ 2
          · have hz : ¬ (2 : Int) < (N : Int) := by have := HN.out; omega
            have e := HR.out
            rw [if_pos hs] at e
            subst e
            have hB := HP.out.sBd false
            go_wp2
            go_end0
            exact ⟨rfl, ⟨_, _, _, _, hB.1⟩, HK5.out.then (kp_of hB.2 HP.out.gB)⟩
          · have hz : (2 : Int) < (N : Int) := by have := HN.out; omega
            have e := HR.out
            rw [if_neg hs] at e
            subst e
            have hB := HP.out.sBd true
            go_wp2
            go_end0
            exact ⟨rfl, ⟨_, _, _, _, _, _, _, _, hB.1⟩, HK5.out.then (kp_of hB.2 HP.out.gB)⟩
        exact AllReadyH.nil
      exact AllReadyH.nil
    exact AllReadyH.nil
  exact AllReadyH.nil

end Go.Proofs.YtpoahegccjgnjaaGreatDoor

namespace Go.Proofs.YtpoahegccjgnjaaGreatDoor
open Go Go.RowKit
set_option linter.unusedVariables false

set_option maxRecDepth 100000 in
set_option maxHeartbeats 4000000 in
theorem xeff_sleep (B : Bd) (g : Nat) (tv rv pv ov kv : Value) (S : Ms) (x : V) (a : Nat) (la : a < 6) (b c : Int) (w : World) (hM : Xm B w g tv S 0 zV false false rv pv ov kv) (h6 : S.rg.length = 6) (hp0 : 0 ≤ S.pc) (hp1 : S.pc ≤ 1000) :
    Calls Tryz.prog 47 #[.pointer (some ⟨g, 0, none⟩), (⟨15, (a : Int), b, c, x⟩ : In).val] w fun e w' => XP B w g tv (if (S.at (a : Int)).k = 1 ∧ 0 ≤ (S.at (a : Int)).n ∧ (S.at (a : Int)).n ≤ 1000000 then Rs.go ⟨S.pc, S.rg, S.pu, S.ou, S.ki, (S.at (a : Int)).n⟩ else Rs.bad) e w' := by
  obtain ⟨r, cap, rfl, hBr, hr, hrg⟩ := xt_cells hM h6
  have hgb := World.grownBy_alloc w (.cells #[.int .i64 15, .int .i64 (a : Int), .int .i64 b, .int .i64 c, .int .i64 x.k, .int .i64 x.n, .string x.s] 44) none
  have hb : Ib (w.alloc (.cells #[.int .i64 15, .int .i64 (a : Int), .int .i64 b, .int .i64 c, .int .i64 x.k, .int .i64 x.n, .string x.s] 44)) w.heap.size ⟨15, (a : Int), b, c, x⟩ := Ib.new w ⟨15, (a : Int), b, c, x⟩
  have hM1 := hM.keptN hgb
  have la' : (a : Int) < 6 := by omega
  obtain ⟨R, HR⟩ : ∃ R, Hid ((if (S.at (a : Int)).k = 1 ∧ 0 ≤ (S.at (a : Int)).n ∧ (S.at (a : Int)).n ≤ 1000000 then Rs.go ⟨S.pc, S.rg, S.pu, S.ou, S.ki, (S.at (a : Int)).n⟩ else Rs.bad) = R) := ⟨_, rfl⟩
  rw [HR.out]
  unfold In.val
  dsimp only
  go_enter Tryz.func47, Tryz.ntmps47
  go_upto_region 1 with fail
  have HG1 := hide (kp_n (B := B) hgb)
  generalize w.alloc (.cells #[.int .i64 15, .int .i64 (a : Int), .int .i64 b, .int .i64 c, .int .i64 x.k, .int .i64 x.n, .string x.s] 44) = W at *
  have hqg : g < w.heap.size := hM.lt
  generalize hq : w.heap.size = q at *
  obtain ⟨b0, b1, b2, b3, b4, b5, b6⟩ := hb.cs
  dsimp only at b0 b1 b2 b3 b4 b5 b6
  have t1 := hM1.tb.c1
  obtain ⟨ar0, ar1, ar2, rf⟩ := xg_cells hM1 h6 a la
  have dr := grown_dr W
  go_upto_region 18 with fail
  go_cut [5] from 148 to 155 (fun t5 W4 => ∃ p, t5 = .pointer (some ⟨p, 0, none⟩) ∧ Vb W4 p (S.at (a : Int)) ∧ W.heap.size ≤ p ∧ W.grownBy W4 none)
  case first =>
    refine wp_region_held_drew (S := fun W0 => W.grownBy W0 none) (by kernel_rfl) (dr) (fun hHeld => ?_)
    refine take_at (i := 0) (d := 148) (v := ?_) rfl rfl (by kernel_rfl) (by kernel_rfl) (by kernel_rfl) (fun _ _ _ h => h) (Or.inl ⟨by rfl, ?_⟩) (by assumption) ?_
    rotate_left
    · intro W hSW
      try dsimp only at hSW
      have g0 := cell_g t1 hSW
      have g1 := cell_g b1 hSW
      have g2 := cell_g ar0 hSW
      have g3 := cell_g ar1 hSW
      have g4 := cell_g ar2 hSW
      go_simp
      try with_reducible rfl
    try simp only [Act.put, List.setIfInBounds_toArray, List.set_cons_zero, List.set_cons_succ]
    refine take_at (i := 1) (d := 149) (v := ?_) rfl rfl (by kernel_rfl) (by kernel_rfl) (by kernel_rfl) (fun _ _ _ h => h) (Or.inl ⟨by rfl, ?_⟩) (by assumption) ?_
    rotate_left
    · intro W hSW
      try dsimp only at hSW
      have g0 := cell_g t1 hSW
      have g1 := cell_g b1 hSW
      have g2 := cell_g ar0 hSW
      have g3 := cell_g ar1 hSW
      have g4 := cell_g ar2 hSW
      go_simp
      try with_reducible rfl
    try simp only [Act.put, List.setIfInBounds_toArray, List.set_cons_zero, List.set_cons_succ]
    refine take_at (i := 2) (d := 150) (v := ?_) rfl rfl (by kernel_rfl) (by kernel_rfl) (by kernel_rfl) (fun _ _ _ h => h) (Or.inl ⟨by rfl, ?_⟩) (by assumption) ?_
    rotate_left
    · intro W hSW
      try dsimp only at hSW
      have g0 := cell_g t1 hSW
      have g1 := cell_g b1 hSW
      have g2 := cell_g ar0 hSW
      have g3 := cell_g ar1 hSW
      have g4 := cell_g ar2 hSW
      go_simp
      try with_reducible rfl
    try simp only [Act.put, List.setIfInBounds_toArray, List.set_cons_zero, List.set_cons_succ]
    refine take_at (i := 3) (d := 151) (v := ?_) rfl rfl (by kernel_rfl) (by kernel_rfl) (by kernel_rfl) (fun _ _ _ h => h) (Or.inl ⟨by rfl, ?_⟩) (by assumption) ?_
    rotate_left
    · intro W hSW
      try dsimp only at hSW
      have g0 := cell_g t1 hSW
      have g1 := cell_g b1 hSW
      have g2 := cell_g ar0 hSW
      have g3 := cell_g ar1 hSW
      have g4 := cell_g ar2 hSW
      go_simp
      try with_reducible rfl
    try simp only [Act.put, List.setIfInBounds_toArray, List.set_cons_zero, List.set_cons_succ]
    refine take_at (i := 4) (d := 152) (v := ?_) rfl rfl (by kernel_rfl) (by kernel_rfl) (by kernel_rfl) (fun _ _ _ h => h) (Or.inl ⟨by rfl, ?_⟩) (by assumption) ?_
    rotate_left
    · intro W hSW
      try dsimp only at hSW
      have g0 := cell_g t1 hSW
      have g1 := cell_g b1 hSW
      have g2 := cell_g ar0 hSW
      have g3 := cell_g ar1 hSW
      have g4 := cell_g ar2 hSW
      go_simp
      try with_reducible rfl
    try simp only [Act.put, List.setIfInBounds_toArray, List.set_cons_zero, List.set_cons_succ]
    refine take_at (i := 5) (d := 153) (v := ?_) rfl rfl (by kernel_rfl) (by kernel_rfl) (by kernel_rfl) (fun _ _ _ h => h) (Or.inl ⟨by rfl, ?_⟩) (by assumption) ?_
    rotate_left
    · intro W hSW
      try dsimp only at hSW
      have g0 := cell_g t1 hSW
      have g1 := cell_g b1 hSW
      have g2 := cell_g ar0 hSW
      have g3 := cell_g ar1 hSW
      have g4 := cell_g ar2 hSW
      go_simp
      try with_reducible rfl
    try simp only [Act.put, List.setIfInBounds_toArray, List.set_cons_zero, List.set_cons_succ]
    refine take_at (i := 6) (d := 154) (v := ?_) rfl rfl (by kernel_rfl) (by kernel_rfl) (by kernel_rfl) (fun _ _ _ h => h) (Or.inl ⟨by rfl, ?_⟩) (by assumption) ?_
    rotate_left
    · intro W hSW
      try dsimp only at hSW
      have g0 := cell_g t1 hSW
      have g1 := cell_g b1 hSW
      have g2 := cell_g ar0 hSW
      have g3 := cell_g ar1 hSW
      have g4 := cell_g ar2 hSW
      go_simp
      try with_reducible rfl
    try simp only [Act.put, List.setIfInBounds_toArray, List.set_cons_zero, List.set_cons_succ]
    refine take_at (i := 7) (d := 155) (v := ?_) rfl rfl (by kernel_rfl) (by kernel_rfl) (by kernel_rfl) (fun _ _ _ h => h) (Or.inl ⟨by rfl, ?_⟩) (by assumption) ?_
    rotate_left
    · intro W hSW
      try dsimp only at hSW
      have g0 := cell_g t1 hSW
      have g1 := cell_g b1 hSW
      have g2 := cell_g ar0 hSW
      have g3 := cell_g ar1 hSW
      have g4 := cell_g ar2 hSW
      go_simp
      try with_reducible rfl
    try simp only [Act.put, List.setIfInBounds_toArray, List.set_cons_zero, List.set_cons_succ]
    refine wpAnyH_ready (rs := [8]) (by kernel_rfl) (by simp) ?_
    refine AllReadyH.cons rfl (fun K hK => ?_) ?_
    · go_simp
      have G1 : W.grownBy (World.drew (World.alloc W (.cells #[.int .i64 0, .int .i64 0, .string ⟨#[]⟩] 31))) none := grown_up (World.grownBy_alloc W (.cells #[.int .i64 0, .int .i64 0, .string ⟨#[]⟩] 31) none) (grown_dr _)
      refine hK.out _ _ (G1) (fun hHeld => ?_)
      clear hK K
      try simp only [Act.put, List.setIfInBounds_toArray, List.set_cons_zero, List.set_cons_succ]
      have U : Vb (World.drew (World.alloc W (.cells #[.int .i64 0, .int .i64 0, .string ⟨#[]⟩] 31))) W.heap.size ⟨0, 0, ⟨#[]⟩⟩ := (Vb.new W ⟨0, 0, ⟨#[]⟩⟩).kept (grown_dr _) (by simp)
      generalize (World.drew (World.alloc W (.cells #[.int .i64 0, .int .i64 0, .string ⟨#[]⟩] 31))) = y1 at *
      obtain ⟨p, hp⟩ : ∃ p, W.heap.size = p := ⟨_, rfl⟩
      have hpl : W.heap.size ≤ p := Nat.le_of_eq hp
      rw [hp] at U ⊢
      refine wpAnyH_ready (rs := [9]) (by kernel_rfl) (by simp) ?_
      refine AllReadyH.cons rfl (fun K hK => ?_) ?_
      · have v0 := U.c0
        have v1 := U.c1
        have v2 := U.c2
        have vf := U.fz
        dsimp only at v0 v1 v2
        go_simp
        have hP := vb_set U (S.at (a : Int))
        have G2 := grown_new G1 hP.2 (fun j e => by cases e; exact hpl)
        refine hK.out _ _ (G2) (fun hHeld => ?_)
        clear hK K
        try simp only [Act.put, List.setIfInBounds_toArray, List.set_cons_zero, List.set_cons_succ]
        refine wpAnyH_done (by kernel_rfl) ?_ _
        go_wp2_with fail
        go_meet
        exact ⟨p, rfl, hP.1, hpl, G2⟩
      exact AllReadyH.nil
    exact AllReadyH.nil
  case rest =>
    obtain ⟨p, rfl, hV, hpl, hg4⟩ := hcut
    have hM4 := hM1.keptN hg4
    have HG4 := hide (HG1.out.then (kp_n hg4))
    have hgp : g ≠ p := by have := hM1.lt; omega
    clear dr t1 b0 b1 b2 b3 b4 b5 b6 ar0 ar1 ar2 rf hM1 hb HG1 hg4
    generalize wc = W4 at *
    have v0 := hV.c0
    have v1 := hV.c1
    have k5 := hM4.tb.c5
    have f5 := hM4.tb.fz 5
    go_upto_region 20 with fail
    have hS := hM4.sl (S.at (a : Int)).n
    have hV5 := hV.kept hS.2 (by simp; omega)
    have HG5 := hide (HG4.out.then (kp_of hS.2 hM4.gB))
    have HM5 := hide hS.1
    clear v0 v1 k5 f5 hS hV hM4 HG4
    generalize W4.setCell ⟨g, 5, none⟩ (.int .i64 (S.at (a : Int)).n) = W5 at *
    have v0 := hV5.c0
    have v1 := hV5.c1
    have k13 := HM5.out.tb.c13
    have f13 := HM5.out.tb.fz 13
    by_cases hk : (S.at (a : Int)).k = 1
    · rw [hk] at v0
      by_cases hn0 : 0 ≤ (S.at (a : Int)).n
      · have z0 : ¬ (S.at (a : Int)).n < 0 := by omega
        by_cases hn1 : (S.at (a : Int)).n ≤ 1000000
        · have z1 : ¬ (1000000 : Int) < (S.at (a : Int)).n := by omega
          have e := HR.out
          rw [if_pos ⟨hk, hn0, hn1⟩] at e
          subst e
          have hB := HM5.out.sBd false
          go_wp2
          go_end0
          exact ⟨rfl, ⟨_, _, _, _, hB.1⟩, HG5.out.then (kp_of hB.2 HM5.out.gB)⟩
        · have z1 : (1000000 : Int) < (S.at (a : Int)).n := by omega
          have e := HR.out
          rw [if_neg (fun h => hn1 h.2.2)] at e
          subst e
          have hB := HM5.out.sBd true
          go_wp2
          go_end0
          exact ⟨rfl, ⟨_, _, _, _, _, _, _, _, hB.1⟩, HG5.out.then (kp_of hB.2 HM5.out.gB)⟩
      · have z0 : (S.at (a : Int)).n < 0 := by omega
        have e := HR.out
        rw [if_neg (fun h => hn0 h.2.1)] at e
        subst e
        have hB := HM5.out.sBd true
        go_wp2
        go_end0
        exact ⟨rfl, ⟨_, _, _, _, _, _, _, _, hB.1⟩, HG5.out.then (kp_of hB.2 HM5.out.gB)⟩
    · have z : ((S.at (a : Int)).k != 1) = true := by simp [hk]
      have e := HR.out
      rw [if_neg (fun h => hk h.1)] at e
      subst e
      have hB := HM5.out.sBd true
      go_wp2
      go_end0
      exact ⟨rfl, ⟨_, _, _, _, _, _, _, _, hB.1⟩, HG5.out.then (kp_of hB.2 HM5.out.gB)⟩

end Go.Proofs.YtpoahegccjgnjaaGreatDoor

namespace Go.Proofs.YtpoahegccjgnjaaGreatDoor
open Go Go.RowKit
set_option linter.unusedVariables false

set_option maxRecDepth 100000 in
set_option maxHeartbeats 4000000 in
theorem xput_any (B : Bd) (g : Nat) (tv rv pv ov kv : Value) (S : Ms) (x : Wr) (w : World) (hM : Xm B w g tv S 0 zV false false rv pv ov kv) (h6 : S.rg.length = 6) (ho : S.pu.length ≤ 100) :
    Calls Tryz.prog 69 #[.pointer (some ⟨g, 0, none⟩), x.val] w fun e w' => XP B w g tv (S.put x) e w' ∧ Kp (fun k => k = g ∨ pv.ownBlock = some k) w w' ∧ w'.cell? ⟨g, 1, none⟩ = some rv := by
  obtain ⟨r, cap, rfl, hBr, hr, hrg⟩ := xt_cells hM h6
  obtain ⟨R, HR⟩ : ∃ R, Hid (S.put x = R) := ⟨_, rfl⟩
  rw [HR.out]
  have hgb := World.grownBy_alloc w (.cells #[.int .i64 x.k.k, .int .i64 x.k.n, .string x.k.s, .int .i64 x.v.k, .int .i64 x.v.n, .string x.v.s, .bool x.g] 62) none
  have hb : (w.alloc (.cells #[.int .i64 x.k.k, .int .i64 x.k.n, .string x.k.s, .int .i64 x.v.k, .int .i64 x.v.n, .string x.v.s, .bool x.g] 62)).heap[w.heap.size]? = some (.cells #[.int .i64 x.k.k, .int .i64 x.k.n, .string x.k.s, .int .i64 x.v.k, .int .i64 x.v.n, .string x.v.s, .bool x.g] 62 (0, 0)) := heap_alloc_new w _
  have hM1 := hM.keptN hgb
  have hbc : ∀ j, (w.alloc (.cells #[.int .i64 x.k.k, .int .i64 x.k.n, .string x.k.s, .int .i64 x.v.k, .int .i64 x.v.n, .string x.v.s, .bool x.g] 62)).cell? ⟨w.heap.size, j, none⟩ = (#[.int .i64 x.k.k, .int .i64 x.k.n, .string x.k.s, .int .i64 x.v.k, .int .i64 x.v.n, .string x.v.s, .bool x.g] : Array Value)[j]? := fun j => by rw [cell_of_row _ _ j _ 62 (0, 0) hb]
  have c0 := hbc 0
  have c1 := hbc 1
  have c2 := hbc 2
  have c3 := hbc 3
  have c4 := hbc 4
  have c5 := hbc 5
  have c6 := hbc 6
  have hqg : g < w.heap.size := hM.lt
  have hpq : ∀ k, pv.ownBlock = some k → k < w.heap.size := fun k e => (hM.pu.lt k e).2
  unfold Wr.val
  go_enter Tryz.func69, Tryz.ntmps69
  go_upto_region 1 with fail
  have HG1 := hide (kp_n (B := B) hgb)
  clear hb hbc
  generalize w.alloc (.cells #[.int .i64 x.k.k, .int .i64 x.k.n, .string x.k.s, .int .i64 x.v.k, .int .i64 x.v.n, .string x.v.s, .bool x.g] 62) = W at *
  generalize hq : w.heap.size = q at *
  have nq : ¬ (q = g ∨ pv.ownBlock = some q) := fun e => by
    rcases e with e | e
    · omega
    · have := hpq q e; omega
  have HM1 := hide hM1
  clear hM1
  go_wp2_with fail
  go_loopw [4] (fun t wr => ∃ j : Nat, j ≤ S.pu.length ∧ t = .int .i64 j ∧ W.grownBy wr none ∧ Hid (∀ i, i < j → (S.pu.getD i dW).k ≠ x.k)) (fun t _ => S.pu.length - (intOf t).toNat)
  case atStart => exact ⟨0, Nat.zero_le _, rfl, World.grownBy.refl _ _, fun j hj => by omega⟩
  case round =>
    obtain ⟨j, hj, rfl, hg, Hj⟩ := hrel
    have hMr := HM1.out.keptN hg
    have HGr := hide (HG1.out.then (kp_n (B := B) hg))
    have d0 := cell_g c0 hg
    have d1 := cell_g c1 hg
    have d2 := cell_g c2 hg
    have d3 := cell_g c3 hg
    have d4 := cell_g c4 hg
    have d5 := cell_g c5 hg
    have d6 := cell_g c6 hg
    clear c0 c1 c2 c3 c4 c5 c6
    by_cases hlt : j < S.pu.length
    · rcases hMr.pu.shape with ⟨_, h0⟩ | ⟨pr, pcap, rfl, hBp, hpl⟩
      · rw [h0] at hlt; cases hlt
      · have hji : (j : Int) < (S.pu.length : Int) := by omega
        have hj0 : (0 : Int) ≤ (j : Int) := by omega
        have hlm : (S.pu.length : Int) ≤ 9223372036854775807 := by omega
        have hcs := fun k u hu => OwR.cells (r := pr) hMr.pu clW rfl j hlt k u hu
        have e0 : wr.cell? ⟨pr, j * 7, none⟩ = some (.int .i64 (S.pu[j]).k.k) := hcs 0 _ rfl
        have e1 := hcs 1 _ rfl
        have e2 := hcs 2 _ rfl
        have e3 := hcs 3 _ rfl
        have e4 := hcs 4 _ rfl
        have e5 := hcs 5 _ rfl
        have e6 := hcs 6 _ rfl
        have ef : ∀ j, wr.frozen? ⟨pr, j, none⟩ = false := fun j => hMr.pu.fz rfl j
        have t2 := hMr.tb.c2
        have Hl : Hid (S.pu.getD j dW = S.pu[j]) := getD_lt S.pu j dW hlt
        have hP := hMr.ent j hlt x
        have HP := hide hP.1
        have HPg := hide hP.2
        clear hP hcs
        obtain ⟨N, HN⟩ : ∃ N, Hid (S.pu.length = N) := ⟨_, rfl⟩
        rw [HN.out] at t2 hji hlm
        generalize S.pu[j] = y at *
        have heq : ∀ W0 : World, (binOp .eql 31 (.agg #[.int .i64 y.k.k, .int .i64 y.k.n, .string y.k.s]) (.agg #[.int .i64 x.k.k, .int .i64 x.k.n, .string x.k.s])).run Tryz.prog W0 = .ok (.bool (eqV y.k x.k)) W0 := fun W0 => run_eqV _ _ _ _ _ _ W0
        cases he : eqV y.k x.k with
        | true =>
          rw [he] at heq
          have hyx := eqV_iff.1 he
          have e := HR.out
          unfold Ms.put at e
          rw [nam_at hlt (by rw [Hl.out]; exact hyx) Hj.out] at e
          dsimp only at e
          subst e
          clear he hyx HR
          go_upto_region 4 with fail
          go_region
          go_upto_region 5 with fail
          go_region
          go_wp2
          first | go_end0 | ((try simp only [Exit.inBlock, Exit.then]); refine bodyPost_ret (results_none rfl _ _ _) rfl ?_)
          have HPn := HP.out
          rw [HN.out] at HPn
          have HPm := hide ((HPn.keptN (grown_dr _)).keptN (grown_dr _))
          have HKa := hide (((HGr.out.then (kp_of HPg.out (hMr.puB pr rfl))).then (Kp.drew _ _)).then (Kp.drew _ _))
          have HKb := hide (((((Kp.ofN hgb (fun k => k = g ∨ (Value.slice (some ⟨pr, 0, none⟩) S.pu.length pcap).ownBlock = some k)).then (Kp.ofN hg _)).then (Kp.ofGrown HPg.out (fun k e _ => .inr e))).then (Kp.drew _ _)).then (Kp.drew _ _))
          exact ⟨⟨rfl, ⟨_, _, _, _, HPm.out⟩, HKa.out⟩, HKb.out, HPm.out.tb.c1⟩
        | false =>
          rw [he] at heq
          have Hj' : Hid (∀ i, i < j + 1 → (S.pu.getD i dW).k ≠ x.k) := by
            intro i hi
            rcases Nat.lt_or_ge i j with h | h
            · exact Hj.out i h
            · obtain rfl : i = j := by omega
              rw [Hl.out]
              intro e
              rw [eqV_iff.2 e] at he
              cases he
          clear he
          go_upto_region 4 with fail
          go_region
          go_wp2_with fail
          go_roundw
          case rel => exact ⟨j + 1, by omega, by go_num, grown_up hg (grown_dr _), Hj'⟩
          case measure => simp [intOf]; omega
    · obtain rfl : j = S.pu.length := by omega
      have e := HR.out
      unfold Ms.put at e
      rw [nam_not Hj.out] at e
      dsimp only at e
      have HR : Hid ((if S.pu.length + 1 ≤ 8 then Rs.go ⟨S.pc, S.rg, S.pu ++ [x], S.ou, S.ki, S.sl⟩ else Rs.bad) = R) := e
      clear e
      have t1 := hMr.tb.c1
      have t2 := hMr.tb.c2
      have hpl : ∃ pa pc, pv = .slice pa S.pu.length pc := by
        rcases hMr.pu.shape with ⟨e, h0⟩ | ⟨pr, pcap, e, _⟩
        · exact ⟨none, 0, by rw [e, h0]; rfl⟩
        · exact ⟨_, _, e⟩
      obtain ⟨pa, pc, rfl⟩ := hpl
      go_upto_region 6 with fail
      obtain ⟨N, HN⟩ : ∃ N, Hid (S.pu.length + 1 = N) := ⟨_, rfl⟩
      have hga3 : wr.grownBy (World.alloc (World.drew wr) (.cells #[.int .i64 x.k.k, .int .i64 x.k.n, .string x.k.s, .int .i64 x.v.k, .int .i64 x.v.n, .string x.v.s, .bool x.g] 62)) none := grown_up (grown_dr wr) (World.grownBy_alloc _ (.cells #[.int .i64 x.k.k, .int .i64 x.k.n, .string x.k.s, .int .i64 x.v.k, .int .i64 x.v.n, .string x.v.s, .bool x.g] 62) none)
      have hMB := hMr.keptN hga3
      have hheap : (World.alloc (World.drew wr) (.cells #[.int .i64 x.k.k, .int .i64 x.k.n, .string x.k.s, .int .i64 x.v.k, .int .i64 x.v.n, .string x.v.s, .bool x.g] 62)).heap[wr.heap.size]? = some (.cells (Wr.cells (x)).toArray 62 (0, 0)) := heap_alloc_new (World.drew wr) (.cells #[.int .i64 x.k.k, .int .i64 x.k.n, .string x.k.s, .int .i64 x.v.k, .int .i64 x.v.n, .string x.v.s, .bool x.g] 62)
      obtain ⟨pr, pcap, w5, hrun, hO5, hg5, hw5⟩ := app_oneR clW (by omega) 26 62 Tryz.underlying26 (.agg #[.int .i64 0, .int .i64 0, .string ByteArray.empty, .int .i64 0, .int .i64 0, .string ByteArray.empty, .bool false]) 72 infoW (by rfl) (by omega) (World.alloc (World.drew wr) (.cells #[.int .i64 x.k.k, .int .i64 x.k.n, .string x.k.s, .int .i64 x.v.k, .int .i64 x.v.n, .string x.v.s, .bool x.g] 62)) B.1 (.slice pa S.pu.length pc) S.pu (x) wr.heap.size hMB.pu hheap (Nat.le_trans hMr.gB.1 (Nat.le_of_lt hMB.lt)) (by omega)
      have hP := hMB.appP hO5 hg5 hw5
      have ht5 := hMB.tb.kept hg5 (fun e => (hMB.ap.p g e.symm).1 rfl)
      have x2 := ht5.c2
      have x1 := ht5.c1
      have xf := ht5.fz 2
      have t2 := hMr.tb.c2
      have a2 := hMB.tb.c2
      have a1 := hMB.tb.c1
      have a2' : (World.alloc wr (.cells #[.int .i64 x.k.k, .int .i64 x.k.n, .string x.k.s, .int .i64 x.v.k, .int .i64 x.v.n, .string x.v.s, .bool x.g] 62)).cell? ⟨g, 2, none⟩ = some (.slice pa S.pu.length pc) := a2
      rw [HN.out] at hrun hO5 hP
      have HK5 := hide ((HGr.out.then (kp_n (B := B) hga3)).then ((kp_bl hMB.puB hg5).then (Kp.setCell w5 g 2 (.slice (some ⟨pr, 0, none⟩) N pcap) (show Bk B g from hMr.gB))))
      have HP := hide hP
      have HFR := hide ((((Kp.ofN hgb (fun k => k = g ∨ (Value.slice pa S.pu.length pc).ownBlock = some k)).then (Kp.ofN hg _)).then (Kp.ofN hga3 _)).then ((Kp.ofGrown hg5 (fun k e _ => .inr e)).then (Kp.setCell w5 g 2 (.slice (some ⟨pr, 0, none⟩) N pcap) (.inl rfl))))
      have HX := hide ht5
      refine wp_region_held_drew (S := fun W0 => Kp (fun k => k = g ∨ (Value.slice pa S.pu.length pc).ownBlock = some k) wr W0 ∧ W0.cell? ⟨g, 1, none⟩ = some (.slice (some ⟨r, 0, none⟩) 6 cap)) (by kernel_rfl) (⟨Kp.drew _ _, t1⟩) (fun hHeld => ?_)
      refine take_at (i := 0) (d := 35) (v := ?_) rfl rfl (by kernel_rfl) (by kernel_rfl) (by kernel_rfl) (fun _ _ _ h => h) (Or.inl ⟨by rfl, ?_⟩) (by assumption) ?_
      rotate_left
      · intro W hSW
        try dsimp only at hSW
        have g0 := hSW.1.cell d0 nq
        have g1 := hSW.1.cell d1 nq
        have g2 := hSW.1.cell d2 nq
        have g3 := hSW.1.cell d3 nq
        have g4 := hSW.1.cell d4 nq
        have g5 := hSW.1.cell d5 nq
        have g6 := hSW.1.cell d6 nq
        go_simp
        try with_reducible rfl
      try simp only [Act.put, List.setIfInBounds_toArray, List.set_cons_zero, List.set_cons_succ]
      refine take_at (i := 1) (d := 36) (v := ?_) rfl rfl (by kernel_rfl) (by kernel_rfl) (by kernel_rfl) (fun _ _ _ h => h) (Or.inl ⟨by rfl, ?_⟩) (by assumption) ?_
      rotate_left
      · intro W hSW
        try dsimp only at hSW
        have g0 := hSW.1.cell d0 nq
        have g1 := hSW.1.cell d1 nq
        have g2 := hSW.1.cell d2 nq
        have g3 := hSW.1.cell d3 nq
        have g4 := hSW.1.cell d4 nq
        have g5 := hSW.1.cell d5 nq
        have g6 := hSW.1.cell d6 nq
        go_simp
        try with_reducible rfl
      try simp only [Act.put, List.setIfInBounds_toArray, List.set_cons_zero, List.set_cons_succ]
      refine take_at (i := 2) (d := 37) (v := ?_) rfl rfl (by kernel_rfl) (by kernel_rfl) (by kernel_rfl) (fun _ _ _ h => h) (Or.inl ⟨by rfl, ?_⟩) (by assumption) ?_
      rotate_left
      · intro W hSW
        try dsimp only at hSW
        have g0 := hSW.1.cell d0 nq
        have g1 := hSW.1.cell d1 nq
        have g2 := hSW.1.cell d2 nq
        have g3 := hSW.1.cell d3 nq
        have g4 := hSW.1.cell d4 nq
        have g5 := hSW.1.cell d5 nq
        have g6 := hSW.1.cell d6 nq
        go_simp
        try with_reducible rfl
      try simp only [Act.put, List.setIfInBounds_toArray, List.set_cons_zero, List.set_cons_succ]
      refine take_at (i := 3) (d := 38) (v := ?_) rfl rfl (by kernel_rfl) (by kernel_rfl) (by kernel_rfl) (fun _ _ _ h => h) (Or.inl ⟨by rfl, ?_⟩) (by assumption) ?_
      rotate_left
      · intro W hSW
        try dsimp only at hSW
        have g0 := hSW.1.cell d0 nq
        have g1 := hSW.1.cell d1 nq
        have g2 := hSW.1.cell d2 nq
        have g3 := hSW.1.cell d3 nq
        have g4 := hSW.1.cell d4 nq
        have g5 := hSW.1.cell d5 nq
        have g6 := hSW.1.cell d6 nq
        go_simp
        try with_reducible rfl
      try simp only [Act.put, List.setIfInBounds_toArray, List.set_cons_zero, List.set_cons_succ]
      refine take_at (i := 4) (d := 39) (v := ?_) rfl rfl (by kernel_rfl) (by kernel_rfl) (by kernel_rfl) (fun _ _ _ h => h) (Or.inl ⟨by rfl, ?_⟩) (by assumption) ?_
      rotate_left
      · intro W hSW
        try dsimp only at hSW
        have g0 := hSW.1.cell d0 nq
        have g1 := hSW.1.cell d1 nq
        have g2 := hSW.1.cell d2 nq
        have g3 := hSW.1.cell d3 nq
        have g4 := hSW.1.cell d4 nq
        have g5 := hSW.1.cell d5 nq
        have g6 := hSW.1.cell d6 nq
        go_simp
        try with_reducible rfl
      try simp only [Act.put, List.setIfInBounds_toArray, List.set_cons_zero, List.set_cons_succ]
      refine take_at (i := 6) (d := 41) (v := ?_) rfl rfl (by kernel_rfl) (by kernel_rfl) (by kernel_rfl) (fun _ _ _ h => h) (Or.inl ⟨by rfl, ?_⟩) (by assumption) ?_
      rotate_left
      · intro W hSW
        try dsimp only at hSW
        have g0 := hSW.1.cell d0 nq
        have g1 := hSW.1.cell d1 nq
        have g2 := hSW.1.cell d2 nq
        have g3 := hSW.1.cell d3 nq
        have g4 := hSW.1.cell d4 nq
        have g5 := hSW.1.cell d5 nq
        have g6 := hSW.1.cell d6 nq
        go_simp
        try with_reducible rfl
      try simp only [Act.put, List.setIfInBounds_toArray, List.set_cons_zero, List.set_cons_succ]
      refine wpAnyH_ready (rs := [5, 7]) (by kernel_rfl) (by simp) ?_
      refine AllReadyH.cons rfl (fun K hK => ?_) ?_
      · go_simp
        refine hK.out _ _ (⟨Kp.drew _ _, t1⟩) (fun hHeld => ?_)
        clear hK K
        try simp only [Act.put, List.setIfInBounds_toArray, List.set_cons_zero, List.set_cons_succ]
        refine wpAnyH_ready (rs := [7]) (by kernel_rfl) (by simp) ?_
        refine AllReadyH.cons rfl (fun K hK => ?_) ?_
        · go_simp
          refine hK.out _ _ (⟨(Kp.drew _ _).then (Kp.alloc _ _ _), a1⟩) (fun hHeld => ?_)
          clear hK K
          try simp only [Act.put, List.setIfInBounds_toArray, List.set_cons_zero, List.set_cons_succ]
          refine wpAnyH_ready (rs := [8]) (by kernel_rfl) (by simp) ?_
          refine AllReadyH.cons rfl (fun K hK => ?_) ?_
          · refine hstep_app 43 (by rfl) (by rfl) (.tmp 40) (.tmp 42) 26 26 26 (by rfl) (by rfl) (.slice pa S.pu.length pc) (.slice (some ⟨wr.heap.size, 0, none⟩) 1 1) (by rfl) (by rfl) hrun ?_
            refine hK.out _ _ (⟨((Kp.drew _ _).then (Kp.alloc _ _ _)).then (Kp.ofGrown hg5 (fun k e _ => .inr e)), x1⟩) (fun hHeld => ?_)
            clear hK K
            try simp only [Act.put, List.setIfInBounds_toArray, List.set_cons_zero, List.set_cons_succ]
            refine take_at (i := 9) (d := 44) (v := ?_) rfl rfl (by kernel_rfl) (by kernel_rfl) (by kernel_rfl) (fun _ _ _ h => h) (Or.inl ⟨by rfl, ?_⟩) (by assumption) ?_
            rotate_left
            · intro W hSW
              try dsimp only at hSW
              go_simp
              try with_reducible rfl
            try simp only [Act.put, List.setIfInBounds_toArray, List.set_cons_zero, List.set_cons_succ]
            refine take_at (i := 10) (d := 45) (v := ?_) rfl rfl (by kernel_rfl) (by kernel_rfl) (by kernel_rfl) (fun _ _ _ h => h) (Or.inl ⟨by rfl, ?_⟩) (by assumption) ?_
            rotate_left
            · intro W hSW
              try dsimp only at hSW
              go_simp
              try with_reducible rfl
            try simp only [Act.put, List.setIfInBounds_toArray, List.set_cons_zero, List.set_cons_succ]
            refine take_at (i := 11) (d := 46) (v := ?_) rfl rfl (by kernel_rfl) (by kernel_rfl) (by kernel_rfl) (fun _ _ _ h => h) (Or.inl ⟨by rfl, ?_⟩) (by assumption) ?_
            rotate_left
            · intro W hSW
              try dsimp only at hSW
              go_simp
              try with_reducible rfl
            try simp only [Act.put, List.setIfInBounds_toArray, List.set_cons_zero, List.set_cons_succ]
            refine wpAnyH_ready (rs := [12]) (by kernel_rfl) (by simp) ?_
            refine AllReadyH.cons rfl (fun K hK => ?_) ?_
            · go_simp
              refine hK.out _ _ (⟨(((Kp.drew _ _).then (Kp.alloc _ _ _)).then (Kp.ofGrown hg5 (fun k e _ => .inr e))).then (Kp.setCell w5 g 2 _ (.inl rfl)), HP.out.tb.c1⟩) (fun hHeld => ?_)
              clear hK K
              try simp only [Act.put, List.setIfInBounds_toArray, List.set_cons_zero, List.set_cons_succ]
              refine wpAnyH_done (by kernel_rfl) ?_ _
              have c5 := HP.out.tb.c2
              have k5 := HP.out.tb.c13
              have kf := HP.out.tb.fz 13
              generalize w5.setCell ⟨g, 2, none⟩ (.slice (some ⟨pr, 0, none⟩) N pcap) = W6 at *
              by_cases hs : S.pu.length + 1 ≤ 8
              · have hz : ¬ (8 : Int) < (N : Int) := by have := HN.out; omega
                have e := HR.out
                rw [if_pos hs] at e
                subst e
                have hB := HP.out.sBd false
                go_wp2
                go_end0
                exact ⟨⟨rfl, ⟨_, _, _, _, hB.1⟩, HK5.out.then (kp_of hB.2 HP.out.gB)⟩, HFR.out.then (Kp.setCell _ g 13 _ (.inl rfl)), hB.1.tb.c1⟩
              · have hz : (8 : Int) < (N : Int) := by have := HN.out; omega
                have e := HR.out
                rw [if_neg hs] at e
                subst e
                have hB := HP.out.sBd true
                go_wp2
                go_end0
                exact ⟨⟨rfl, ⟨_, _, _, _, _, _, _, _, hB.1⟩, HK5.out.then (kp_of hB.2 HP.out.gB)⟩, HFR.out.then (Kp.setCell _ g 13 _ (.inl rfl)), hB.1.tb.c1⟩
            exact AllReadyH.nil
          exact AllReadyH.nil
        exact AllReadyH.nil
      refine AllReadyH.cons rfl (fun K hK => ?_) ?_
      · go_simp
        refine hK.out _ _ (⟨(Kp.drew _ _).then (Kp.alloc _ _ _), a1⟩) (fun hHeld => ?_)
        clear hK K
        try simp only [Act.put, List.setIfInBounds_toArray, List.set_cons_zero, List.set_cons_succ]
        refine wpAnyH_ready (rs := [5]) (by kernel_rfl) (by simp) ?_
        refine AllReadyH.cons rfl (fun K hK => ?_) ?_
        · go_simp
          refine hK.out _ _ (⟨(Kp.drew _ _).then (Kp.alloc _ _ _), a1⟩) (fun hHeld => ?_)
          clear hK K
          try simp only [Act.put, List.setIfInBounds_toArray, List.set_cons_zero, List.set_cons_succ]
          refine wpAnyH_ready (rs := [8]) (by kernel_rfl) (by simp) ?_
          refine AllReadyH.cons rfl (fun K hK => ?_) ?_
          · refine hstep_app 43 (by rfl) (by rfl) (.tmp 40) (.tmp 42) 26 26 26 (by rfl) (by rfl) (.slice pa S.pu.length pc) (.slice (some ⟨wr.heap.size, 0, none⟩) 1 1) (by rfl) (by rfl) hrun ?_
            refine hK.out _ _ (⟨((Kp.drew _ _).then (Kp.alloc _ _ _)).then (Kp.ofGrown hg5 (fun k e _ => .inr e)), x1⟩) (fun hHeld => ?_)
            clear hK K
            try simp only [Act.put, List.setIfInBounds_toArray, List.set_cons_zero, List.set_cons_succ]
            refine take_at (i := 9) (d := 44) (v := ?_) rfl rfl (by kernel_rfl) (by kernel_rfl) (by kernel_rfl) (fun _ _ _ h => h) (Or.inl ⟨by rfl, ?_⟩) (by assumption) ?_
            rotate_left
            · intro W hSW
              try dsimp only at hSW
              go_simp
              try with_reducible rfl
            try simp only [Act.put, List.setIfInBounds_toArray, List.set_cons_zero, List.set_cons_succ]
            refine take_at (i := 10) (d := 45) (v := ?_) rfl rfl (by kernel_rfl) (by kernel_rfl) (by kernel_rfl) (fun _ _ _ h => h) (Or.inl ⟨by rfl, ?_⟩) (by assumption) ?_
            rotate_left
            · intro W hSW
              try dsimp only at hSW
              go_simp
              try with_reducible rfl
            try simp only [Act.put, List.setIfInBounds_toArray, List.set_cons_zero, List.set_cons_succ]
            refine take_at (i := 11) (d := 46) (v := ?_) rfl rfl (by kernel_rfl) (by kernel_rfl) (by kernel_rfl) (fun _ _ _ h => h) (Or.inl ⟨by rfl, ?_⟩) (by assumption) ?_
            rotate_left
            · intro W hSW
              try dsimp only at hSW
              go_simp
              try with_reducible rfl
            try simp only [Act.put, List.setIfInBounds_toArray, List.set_cons_zero, List.set_cons_succ]
            refine wpAnyH_ready (rs := [12]) (by kernel_rfl) (by simp) ?_
            refine AllReadyH.cons rfl (fun K hK => ?_) ?_
            · go_simp
              refine hK.out _ _ (⟨(((Kp.drew _ _).then (Kp.alloc _ _ _)).then (Kp.ofGrown hg5 (fun k e _ => .inr e))).then (Kp.setCell w5 g 2 _ (.inl rfl)), HP.out.tb.c1⟩) (fun hHeld => ?_)
              clear hK K
              try simp only [Act.put, List.setIfInBounds_toArray, List.set_cons_zero, List.set_cons_succ]
              refine wpAnyH_done (by kernel_rfl) ?_ _
              have c5 := HP.out.tb.c2
              have k5 := HP.out.tb.c13
              have kf := HP.out.tb.fz 13
              generalize w5.setCell ⟨g, 2, none⟩ (.slice (some ⟨pr, 0, none⟩) N pcap) = W6 at *
              by_cases hs : S.pu.length + 1 ≤ 8
              · have hz : ¬ (8 : Int) < (N : Int) := by have := HN.out; omega
                have e := HR.out
                rw [if_pos hs] at e
                subst e
                have hB := HP.out.sBd false
                go_wp2
                go_end0
                exact ⟨⟨rfl, ⟨_, _, _, _, hB.1⟩, HK5.out.then (kp_of hB.2 HP.out.gB)⟩, HFR.out.then (Kp.setCell _ g 13 _ (.inl rfl)), hB.1.tb.c1⟩
              · have hz : (8 : Int) < (N : Int) := by have := HN.out; omega
                have e := HR.out
                rw [if_neg hs] at e
                subst e
                have hB := HP.out.sBd true
                go_wp2
                go_end0
                exact ⟨⟨rfl, ⟨_, _, _, _, _, _, _, _, hB.1⟩, HK5.out.then (kp_of hB.2 HP.out.gB)⟩, HFR.out.then (Kp.setCell _ g 13 _ (.inl rfl)), hB.1.tb.c1⟩
            exact AllReadyH.nil
          exact AllReadyH.nil
        exact AllReadyH.nil
      exact AllReadyH.nil


end Go.Proofs.YtpoahegccjgnjaaGreatDoor

namespace Go.Proofs.YtpoahegccjgnjaaGreatDoor
open Go Go.RowKit
set_option linter.unusedVariables false

set_option maxRecDepth 100000 in
set_option maxHeartbeats 4000000 in
theorem xeff_store (B : Bd) (g : Nat) (tv rv pv ov kv : Value) (S : Ms) (x : V) (a : Nat) (b : Nat) (la : a < 6) (lb : b < 6) (c : Int) (w : World) (hM : Xm B w g tv S 0 zV false false rv pv ov kv) (h6 : S.rg.length = 6) (hp0 : 0 ≤ S.pc) (hp1 : S.pc ≤ 1000) (ho : S.pu.length ≤ 100) :
    Calls Tryz.prog 47 #[.pointer (some ⟨g, 0, none⟩), (⟨12, (a : Int), (b : Int), c, x⟩ : In).val] w fun e w' => XP B w g tv (S.put ⟨S.at (a : Int), S.at (b : Int), false⟩) e w' := by
  obtain ⟨r, cap, rfl, hBr, hr, hrg⟩ := xt_cells hM h6
  have hgb := World.grownBy_alloc w (.cells #[.int .i64 12, .int .i64 (a : Int), .int .i64 (b : Int), .int .i64 c, .int .i64 x.k, .int .i64 x.n, .string x.s] 44) none
  have hb : Ib (w.alloc (.cells #[.int .i64 12, .int .i64 (a : Int), .int .i64 (b : Int), .int .i64 c, .int .i64 x.k, .int .i64 x.n, .string x.s] 44)) w.heap.size ⟨12, (a : Int), (b : Int), c, x⟩ := Ib.new w ⟨12, (a : Int), (b : Int), c, x⟩
  have hM1 := hM.keptN hgb
  have la' : (a : Int) < 6 := by omega
  have lb' : (b : Int) < 6 := by omega
  unfold In.val
  dsimp only
  go_enter Tryz.func47, Tryz.ntmps47
  go_upto_region 1 with fail
  have HG1 := hide (kp_n (B := B) hgb)
  generalize w.alloc (.cells #[.int .i64 12, .int .i64 (a : Int), .int .i64 (b : Int), .int .i64 c, .int .i64 x.k, .int .i64 x.n, .string x.s] 44) = W at *
  have hqg : g < w.heap.size := hM.lt
  generalize hq : w.heap.size = q at *
  have Hput : Hid (∀ W0, W.grownBy W0 none → Calls Tryz.prog 69 #[.pointer (some ⟨g, 0, none⟩), .agg #[.int .i64 (S.at (a : Int)).k, .int .i64 (S.at (a : Int)).n, .string (S.at (a : Int)).s, .int .i64 (S.at (b : Int)).k, .int .i64 (S.at (b : Int)).n, .string (S.at (b : Int)).s, .bool false]] W0 fun e w' => XP B W0 g tv (S.put ⟨S.at (a : Int), S.at (b : Int), false⟩) e w' ∧ Kp (fun k => k = g ∨ pv.ownBlock = some k) W0 w' ∧ w'.cell? ⟨g, 1, none⟩ = some (.slice (some ⟨r, 0, none⟩) 6 cap)) := fun W0 hg => xput_any B g tv _ pv ov kv S ⟨S.at (a : Int), S.at (b : Int), false⟩ W0 (hM1.keptN hg) h6 ho
  obtain ⟨b0, b1, b2, b3, b4, b5, b6⟩ := hb.cs
  dsimp only at b0 b1 b2 b3 b4 b5 b6
  have t1 := hM1.tb.c1
  obtain ⟨ar0, ar1, ar2, rf⟩ := xg_cells hM1 h6 a la
  obtain ⟨br0, br1, br2, rf⟩ := xg_cells hM1 h6 b lb
  have nq : ¬ (q = g ∨ pv.ownBlock = some q) := fun e => by
    rcases e with e | e
    · omega
    · have := (hM.pu.lt q e).2; omega
  have nr : ¬ (r = g ∨ pv.ownBlock = some r) := fun e => by
    rcases e with e | e
    · exact hrg e
    · exact (hM1.ap.r r rfl).2.1 e
  go_upto_region 8 with fail
  refine wp_region_held_drew (S := fun W0 => Kp (fun k => k = g ∨ pv.ownBlock = some k) W W0 ∧ W0.cell? ⟨g, 1, none⟩ = some (.slice (some ⟨r, 0, none⟩) 6 cap)) (by kernel_rfl) (⟨Kp.drew _ _, t1⟩) (fun hHeld => ?_)
  refine take_at (i := 0) (d := 41) (v := ?_) rfl rfl (by kernel_rfl) (by kernel_rfl) (by kernel_rfl) (fun _ _ _ h => h) (Or.inl ⟨by rfl, ?_⟩) (by assumption) ?_
  rotate_left
  · intro W hSW
    try dsimp only at hSW
    have ng := hSW.2
    have g1 := hSW.1.cell b1 nq
    have g2 := hSW.1.cell b2 nq
    have g3 := hSW.1.cell b3 nq
    have ha0 := hSW.1.cell ar0 nr
    have ha1 := hSW.1.cell ar1 nr
    have ha2 := hSW.1.cell ar2 nr
    have hb0 := hSW.1.cell br0 nr
    have hb1 := hSW.1.cell br1 nr
    have hb2 := hSW.1.cell br2 nr
    go_simp
    try with_reducible rfl
  try simp only [Act.put, List.setIfInBounds_toArray, List.set_cons_zero, List.set_cons_succ]
  refine take_at (i := 1) (d := 42) (v := ?_) rfl rfl (by kernel_rfl) (by kernel_rfl) (by kernel_rfl) (fun _ _ _ h => h) (Or.inl ⟨by rfl, ?_⟩) (by assumption) ?_
  rotate_left
  · intro W hSW
    try dsimp only at hSW
    have ng := hSW.2
    have g1 := hSW.1.cell b1 nq
    have g2 := hSW.1.cell b2 nq
    have g3 := hSW.1.cell b3 nq
    have ha0 := hSW.1.cell ar0 nr
    have ha1 := hSW.1.cell ar1 nr
    have ha2 := hSW.1.cell ar2 nr
    have hb0 := hSW.1.cell br0 nr
    have hb1 := hSW.1.cell br1 nr
    have hb2 := hSW.1.cell br2 nr
    go_simp
    try with_reducible rfl
  try simp only [Act.put, List.setIfInBounds_toArray, List.set_cons_zero, List.set_cons_succ]
  refine take_at (i := 2) (d := 43) (v := ?_) rfl rfl (by kernel_rfl) (by kernel_rfl) (by kernel_rfl) (fun _ _ _ h => h) (Or.inl ⟨by rfl, ?_⟩) (by assumption) ?_
  rotate_left
  · intro W hSW
    try dsimp only at hSW
    have ng := hSW.2
    have g1 := hSW.1.cell b1 nq
    have g2 := hSW.1.cell b2 nq
    have g3 := hSW.1.cell b3 nq
    have ha0 := hSW.1.cell ar0 nr
    have ha1 := hSW.1.cell ar1 nr
    have ha2 := hSW.1.cell ar2 nr
    have hb0 := hSW.1.cell br0 nr
    have hb1 := hSW.1.cell br1 nr
    have hb2 := hSW.1.cell br2 nr
    go_simp
    try with_reducible rfl
  try simp only [Act.put, List.setIfInBounds_toArray, List.set_cons_zero, List.set_cons_succ]
  refine take_at (i := 3) (d := 44) (v := ?_) rfl rfl (by kernel_rfl) (by kernel_rfl) (by kernel_rfl) (fun _ _ _ h => h) (Or.inl ⟨by rfl, ?_⟩) (by assumption) ?_
  rotate_left
  · intro W hSW
    try dsimp only at hSW
    have ng := hSW.2
    have g1 := hSW.1.cell b1 nq
    have g2 := hSW.1.cell b2 nq
    have g3 := hSW.1.cell b3 nq
    have ha0 := hSW.1.cell ar0 nr
    have ha1 := hSW.1.cell ar1 nr
    have ha2 := hSW.1.cell ar2 nr
    have hb0 := hSW.1.cell br0 nr
    have hb1 := hSW.1.cell br1 nr
    have hb2 := hSW.1.cell br2 nr
    go_simp
    try with_reducible rfl
  try simp only [Act.put, List.setIfInBounds_toArray, List.set_cons_zero, List.set_cons_succ]
  refine take_at (i := 4) (d := 45) (v := ?_) rfl rfl (by kernel_rfl) (by kernel_rfl) (by kernel_rfl) (fun _ _ _ h => h) (Or.inl ⟨by rfl, ?_⟩) (by assumption) ?_
  rotate_left
  · intro W hSW
    try dsimp only at hSW
    have ng := hSW.2
    have g1 := hSW.1.cell b1 nq
    have g2 := hSW.1.cell b2 nq
    have g3 := hSW.1.cell b3 nq
    have ha0 := hSW.1.cell ar0 nr
    have ha1 := hSW.1.cell ar1 nr
    have ha2 := hSW.1.cell ar2 nr
    have hb0 := hSW.1.cell br0 nr
    have hb1 := hSW.1.cell br1 nr
    have hb2 := hSW.1.cell br2 nr
    go_simp
    try with_reducible rfl
  try simp only [Act.put, List.setIfInBounds_toArray, List.set_cons_zero, List.set_cons_succ]
  refine take_at (i := 5) (d := 46) (v := ?_) rfl rfl (by kernel_rfl) (by kernel_rfl) (by kernel_rfl) (fun _ _ _ h => h) (Or.inl ⟨by rfl, ?_⟩) (by assumption) ?_
  rotate_left
  · intro W hSW
    try dsimp only at hSW
    have ng := hSW.2
    have g1 := hSW.1.cell b1 nq
    have g2 := hSW.1.cell b2 nq
    have g3 := hSW.1.cell b3 nq
    have ha0 := hSW.1.cell ar0 nr
    have ha1 := hSW.1.cell ar1 nr
    have ha2 := hSW.1.cell ar2 nr
    have hb0 := hSW.1.cell br0 nr
    have hb1 := hSW.1.cell br1 nr
    have hb2 := hSW.1.cell br2 nr
    go_simp
    try with_reducible rfl
  try simp only [Act.put, List.setIfInBounds_toArray, List.set_cons_zero, List.set_cons_succ]
  refine take_at (i := 6) (d := 47) (v := ?_) rfl rfl (by kernel_rfl) (by kernel_rfl) (by kernel_rfl) (fun _ _ _ h => h) (Or.inl ⟨by rfl, ?_⟩) (by assumption) ?_
  rotate_left
  · intro W hSW
    try dsimp only at hSW
    have ng := hSW.2
    have g1 := hSW.1.cell b1 nq
    have g2 := hSW.1.cell b2 nq
    have g3 := hSW.1.cell b3 nq
    have ha0 := hSW.1.cell ar0 nr
    have ha1 := hSW.1.cell ar1 nr
    have ha2 := hSW.1.cell ar2 nr
    have hb0 := hSW.1.cell br0 nr
    have hb1 := hSW.1.cell br1 nr
    have hb2 := hSW.1.cell br2 nr
    go_simp
    try with_reducible rfl
  try simp only [Act.put, List.setIfInBounds_toArray, List.set_cons_zero, List.set_cons_succ]
  refine take_at (i := 7) (d := 48) (v := ?_) rfl rfl (by kernel_rfl) (by kernel_rfl) (by kernel_rfl) (fun _ _ _ h => h) (Or.inl ⟨by rfl, ?_⟩) (by assumption) ?_
  rotate_left
  · intro W hSW
    try dsimp only at hSW
    have ng := hSW.2
    have g1 := hSW.1.cell b1 nq
    have g2 := hSW.1.cell b2 nq
    have g3 := hSW.1.cell b3 nq
    have ha0 := hSW.1.cell ar0 nr
    have ha1 := hSW.1.cell ar1 nr
    have ha2 := hSW.1.cell ar2 nr
    have hb0 := hSW.1.cell br0 nr
    have hb1 := hSW.1.cell br1 nr
    have hb2 := hSW.1.cell br2 nr
    go_simp
    try with_reducible rfl
  try simp only [Act.put, List.setIfInBounds_toArray, List.set_cons_zero, List.set_cons_succ]
  refine take_at (i := 8) (d := 49) (v := ?_) rfl rfl (by kernel_rfl) (by kernel_rfl) (by kernel_rfl) (fun _ _ _ h => h) (Or.inl ⟨by rfl, ?_⟩) (by assumption) ?_
  rotate_left
  · intro W hSW
    try dsimp only at hSW
    have ng := hSW.2
    have g1 := hSW.1.cell b1 nq
    have g2 := hSW.1.cell b2 nq
    have g3 := hSW.1.cell b3 nq
    have ha0 := hSW.1.cell ar0 nr
    have ha1 := hSW.1.cell ar1 nr
    have ha2 := hSW.1.cell ar2 nr
    have hb0 := hSW.1.cell br0 nr
    have hb1 := hSW.1.cell br1 nr
    have hb2 := hSW.1.cell br2 nr
    go_simp
    try with_reducible rfl
  try simp only [Act.put, List.setIfInBounds_toArray, List.set_cons_zero, List.set_cons_succ]
  refine take_at (i := 9) (d := 50) (v := ?_) rfl rfl (by kernel_rfl) (by kernel_rfl) (by kernel_rfl) (fun _ _ _ h => h) (Or.inl ⟨by rfl, ?_⟩) (by assumption) ?_
  rotate_left
  · intro W hSW
    try dsimp only at hSW
    have ng := hSW.2
    have g1 := hSW.1.cell b1 nq
    have g2 := hSW.1.cell b2 nq
    have g3 := hSW.1.cell b3 nq
    have ha0 := hSW.1.cell ar0 nr
    have ha1 := hSW.1.cell ar1 nr
    have ha2 := hSW.1.cell ar2 nr
    have hb0 := hSW.1.cell br0 nr
    have hb1 := hSW.1.cell br1 nr
    have hb2 := hSW.1.cell br2 nr
    go_simp
    try with_reducible rfl
  try simp only [Act.put, List.setIfInBounds_toArray, List.set_cons_zero, List.set_cons_succ]
  refine take_at (i := 10) (d := 51) (v := ?_) rfl rfl (by kernel_rfl) (by kernel_rfl) (by kernel_rfl) (fun _ _ _ h => h) (Or.inl ⟨by rfl, ?_⟩) (by assumption) ?_
  rotate_left
  · intro W hSW
    try dsimp only at hSW
    have ng := hSW.2
    have g1 := hSW.1.cell b1 nq
    have g2 := hSW.1.cell b2 nq
    have g3 := hSW.1.cell b3 nq
    have ha0 := hSW.1.cell ar0 nr
    have ha1 := hSW.1.cell ar1 nr
    have ha2 := hSW.1.cell ar2 nr
    have hb0 := hSW.1.cell br0 nr
    have hb1 := hSW.1.cell br1 nr
    have hb2 := hSW.1.cell br2 nr
    go_simp
    try with_reducible rfl
  try simp only [Act.put, List.setIfInBounds_toArray, List.set_cons_zero, List.set_cons_succ]
  refine take_at (i := 11) (d := 52) (v := ?_) rfl rfl (by kernel_rfl) (by kernel_rfl) (by kernel_rfl) (fun _ _ _ h => h) (Or.inl ⟨by rfl, ?_⟩) (by assumption) ?_
  rotate_left
  · intro W hSW
    try dsimp only at hSW
    have ng := hSW.2
    have g1 := hSW.1.cell b1 nq
    have g2 := hSW.1.cell b2 nq
    have g3 := hSW.1.cell b3 nq
    have ha0 := hSW.1.cell ar0 nr
    have ha1 := hSW.1.cell ar1 nr
    have ha2 := hSW.1.cell ar2 nr
    have hb0 := hSW.1.cell br0 nr
    have hb1 := hSW.1.cell br1 nr
    have hb2 := hSW.1.cell br2 nr
    go_simp
    try with_reducible rfl
  try simp only [Act.put, List.setIfInBounds_toArray, List.set_cons_zero, List.set_cons_succ]
  refine take_at (i := 12) (d := 53) (v := ?_) rfl rfl (by kernel_rfl) (by kernel_rfl) (by kernel_rfl) (fun _ _ _ h => h) (Or.inl ⟨by rfl, ?_⟩) (by assumption) ?_
  rotate_left
  · intro W hSW
    try dsimp only at hSW
    have ng := hSW.2
    have g1 := hSW.1.cell b1 nq
    have g2 := hSW.1.cell b2 nq
    have g3 := hSW.1.cell b3 nq
    have ha0 := hSW.1.cell ar0 nr
    have ha1 := hSW.1.cell ar1 nr
    have ha2 := hSW.1.cell ar2 nr
    have hb0 := hSW.1.cell br0 nr
    have hb1 := hSW.1.cell br1 nr
    have hb2 := hSW.1.cell br2 nr
    go_simp
    try with_reducible rfl
  try simp only [Act.put, List.setIfInBounds_toArray, List.set_cons_zero, List.set_cons_succ]
  refine take_at (i := 13) (d := 54) (v := ?_) rfl rfl (by kernel_rfl) (by kernel_rfl) (by kernel_rfl) (fun _ _ _ h => h) (Or.inl ⟨by rfl, ?_⟩) (by assumption) ?_
  rotate_left
  · intro W hSW
    try dsimp only at hSW
    have ng := hSW.2
    have g1 := hSW.1.cell b1 nq
    have g2 := hSW.1.cell b2 nq
    have g3 := hSW.1.cell b3 nq
    have ha0 := hSW.1.cell ar0 nr
    have ha1 := hSW.1.cell ar1 nr
    have ha2 := hSW.1.cell ar2 nr
    have hb0 := hSW.1.cell br0 nr
    have hb1 := hSW.1.cell br1 nr
    have hb2 := hSW.1.cell br2 nr
    go_simp
    try with_reducible rfl
  try simp only [Act.put, List.setIfInBounds_toArray, List.set_cons_zero, List.set_cons_succ]
  refine take_at (i := 14) (d := 55) (v := ?_) rfl rfl (by kernel_rfl) (by kernel_rfl) (by kernel_rfl) (fun _ _ _ h => h) (Or.inl ⟨by rfl, ?_⟩) (by assumption) ?_
  rotate_left
  · intro W hSW
    try dsimp only at hSW
    have ng := hSW.2
    have g1 := hSW.1.cell b1 nq
    have g2 := hSW.1.cell b2 nq
    have g3 := hSW.1.cell b3 nq
    have ha0 := hSW.1.cell ar0 nr
    have ha1 := hSW.1.cell ar1 nr
    have ha2 := hSW.1.cell ar2 nr
    have hb0 := hSW.1.cell br0 nr
    have hb1 := hSW.1.cell br1 nr
    have hb2 := hSW.1.cell br2 nr
    go_simp
    try with_reducible rfl
  try simp only [Act.put, List.setIfInBounds_toArray, List.set_cons_zero, List.set_cons_succ]
  refine take_at (i := 15) (d := 56) (v := ?_) rfl rfl (by kernel_rfl) (by kernel_rfl) (by kernel_rfl) (fun _ _ _ h => h) (Or.inl ⟨by rfl, ?_⟩) (by assumption) ?_
  rotate_left
  · intro W hSW
    try dsimp only at hSW
    have ng := hSW.2
    have g1 := hSW.1.cell b1 nq
    have g2 := hSW.1.cell b2 nq
    have g3 := hSW.1.cell b3 nq
    have ha0 := hSW.1.cell ar0 nr
    have ha1 := hSW.1.cell ar1 nr
    have ha2 := hSW.1.cell ar2 nr
    have hb0 := hSW.1.cell br0 nr
    have hb1 := hSW.1.cell br1 nr
    have hb2 := hSW.1.cell br2 nr
    go_simp
    try with_reducible rfl
  try simp only [Act.put, List.setIfInBounds_toArray, List.set_cons_zero, List.set_cons_succ]
  refine take_at (i := 16) (d := 57) (v := ?_) rfl rfl (by kernel_rfl) (by kernel_rfl) (by kernel_rfl) (fun _ _ _ h => h) (Or.inl ⟨by rfl, ?_⟩) (by assumption) ?_
  rotate_left
  · intro W hSW
    try dsimp only at hSW
    have ng := hSW.2
    have g1 := hSW.1.cell b1 nq
    have g2 := hSW.1.cell b2 nq
    have g3 := hSW.1.cell b3 nq
    have ha0 := hSW.1.cell ar0 nr
    have ha1 := hSW.1.cell ar1 nr
    have ha2 := hSW.1.cell ar2 nr
    have hb0 := hSW.1.cell br0 nr
    have hb1 := hSW.1.cell br1 nr
    have hb2 := hSW.1.cell br2 nr
    go_simp
    try with_reducible rfl
  try simp only [Act.put, List.setIfInBounds_toArray, List.set_cons_zero, List.set_cons_succ]
  refine take_at (i := 17) (d := 58) (v := ?_) rfl rfl (by kernel_rfl) (by kernel_rfl) (by kernel_rfl) (fun _ _ _ h => h) (Or.inl ⟨by rfl, ?_⟩) (by assumption) ?_
  rotate_left
  · intro W hSW
    try dsimp only at hSW
    have ng := hSW.2
    have g1 := hSW.1.cell b1 nq
    have g2 := hSW.1.cell b2 nq
    have g3 := hSW.1.cell b3 nq
    have ha0 := hSW.1.cell ar0 nr
    have ha1 := hSW.1.cell ar1 nr
    have ha2 := hSW.1.cell ar2 nr
    have hb0 := hSW.1.cell br0 nr
    have hb1 := hSW.1.cell br1 nr
    have hb2 := hSW.1.cell br2 nr
    go_simp
    try with_reducible rfl
  try simp only [Act.put, List.setIfInBounds_toArray, List.set_cons_zero, List.set_cons_succ]
  refine wpAnyH_ready (rs := [18]) (by kernel_rfl) (by simp) ?_
  refine AllReadyH.cons rfl (fun K hK => ?_) ?_
  · go_simp
    go_wp2_with (go_at_call 69; refine (Hput.out _ (grown_dr W)).mono ?_; rintro e w4 ⟨hD, hO, hc⟩; obtain ⟨rfl, hR, hk⟩ := hD)
    refine hK.out _ _ (⟨(Kp.drew _ _).then hO, hc⟩) (fun hHeld => ?_)
    clear hK K
    try simp only [Act.put, List.setIfInBounds_toArray, List.set_cons_zero, List.set_cons_succ]
    refine wpAnyH_done (by kernel_rfl) ?_ _
    go_wp2
    go_end0
    exact ⟨rfl, hR, (HG1.out.then (Kp.drew _ _)).then hk⟩
  exact AllReadyH.nil
set_option maxRecDepth 100000 in
set_option maxHeartbeats 4000000 in
theorem xeff_drop (B : Bd) (g : Nat) (tv rv pv ov kv : Value) (S : Ms) (x : V) (a : Nat) (la : a < 6) (b c : Int) (w : World) (hM : Xm B w g tv S 0 zV false false rv pv ov kv) (h6 : S.rg.length = 6) (hp0 : 0 ≤ S.pc) (hp1 : S.pc ≤ 1000) (ho : S.pu.length ≤ 100) :
    Calls Tryz.prog 47 #[.pointer (some ⟨g, 0, none⟩), (⟨13, (a : Int), b, c, x⟩ : In).val] w fun e w' => XP B w g tv (S.put ⟨S.at (a : Int), zV, true⟩) e w' := by
  obtain ⟨r, cap, rfl, hBr, hr, hrg⟩ := xt_cells hM h6
  have hgb := World.grownBy_alloc w (.cells #[.int .i64 13, .int .i64 (a : Int), .int .i64 b, .int .i64 c, .int .i64 x.k, .int .i64 x.n, .string x.s] 44) none
  have hb : Ib (w.alloc (.cells #[.int .i64 13, .int .i64 (a : Int), .int .i64 b, .int .i64 c, .int .i64 x.k, .int .i64 x.n, .string x.s] 44)) w.heap.size ⟨13, (a : Int), b, c, x⟩ := Ib.new w ⟨13, (a : Int), b, c, x⟩
  have hM1 := hM.keptN hgb
  have la' : (a : Int) < 6 := by omega
  unfold In.val
  dsimp only
  go_enter Tryz.func47, Tryz.ntmps47
  go_upto_region 1 with fail
  have HG1 := hide (kp_n (B := B) hgb)
  generalize w.alloc (.cells #[.int .i64 13, .int .i64 (a : Int), .int .i64 b, .int .i64 c, .int .i64 x.k, .int .i64 x.n, .string x.s] 44) = W at *
  have hqg : g < w.heap.size := hM.lt
  generalize hq : w.heap.size = q at *
  have Hput : Hid (∀ W0, W.grownBy W0 none → Calls Tryz.prog 69 #[.pointer (some ⟨g, 0, none⟩), .agg #[.int .i64 (S.at (a : Int)).k, .int .i64 (S.at (a : Int)).n, .string (S.at (a : Int)).s, .int .i64 0, .int .i64 0, .string ⟨#[]⟩, .bool true]] W0 fun e w' => XP B W0 g tv (S.put ⟨S.at (a : Int), zV, true⟩) e w' ∧ Kp (fun k => k = g ∨ pv.ownBlock = some k) W0 w' ∧ w'.cell? ⟨g, 1, none⟩ = some (.slice (some ⟨r, 0, none⟩) 6 cap)) := fun W0 hg => xput_any B g tv _ pv ov kv S ⟨S.at (a : Int), zV, true⟩ W0 (hM1.keptN hg) h6 ho
  obtain ⟨b0, b1, b2, b3, b4, b5, b6⟩ := hb.cs
  dsimp only at b0 b1 b2 b3 b4 b5 b6
  have t1 := hM1.tb.c1
  obtain ⟨ar0, ar1, ar2, rf⟩ := xg_cells hM1 h6 a la
  have nq : ¬ (q = g ∨ pv.ownBlock = some q) := fun e => by
    rcases e with e | e
    · omega
    · have := (hM.pu.lt q e).2; omega
  have nr : ¬ (r = g ∨ pv.ownBlock = some r) := fun e => by
    rcases e with e | e
    · exact hrg e
    · exact (hM1.ap.r r rfl).2.1 e
  go_upto_region 10 with fail
  refine wp_region_held_drew (S := fun W0 => Kp (fun k => k = g ∨ pv.ownBlock = some k) W W0 ∧ W0.cell? ⟨g, 1, none⟩ = some (.slice (some ⟨r, 0, none⟩) 6 cap)) (by kernel_rfl) (⟨Kp.drew _ _, t1⟩) (fun hHeld => ?_)
  refine take_at (i := 0) (d := 62) (v := ?_) rfl rfl (by kernel_rfl) (by kernel_rfl) (by kernel_rfl) (fun _ _ _ h => h) (Or.inl ⟨by rfl, ?_⟩) (by assumption) ?_
  rotate_left
  · intro W hSW
    try dsimp only at hSW
    have ng := hSW.2
    have g1 := hSW.1.cell b1 nq
    have g2 := hSW.1.cell b2 nq
    have g3 := hSW.1.cell b3 nq
    have ha0 := hSW.1.cell ar0 nr
    have ha1 := hSW.1.cell ar1 nr
    have ha2 := hSW.1.cell ar2 nr
    go_simp
    try with_reducible rfl
  try simp only [Act.put, List.setIfInBounds_toArray, List.set_cons_zero, List.set_cons_succ]
  refine take_at (i := 1) (d := 63) (v := ?_) rfl rfl (by kernel_rfl) (by kernel_rfl) (by kernel_rfl) (fun _ _ _ h => h) (Or.inl ⟨by rfl, ?_⟩) (by assumption) ?_
  rotate_left
  · intro W hSW
    try dsimp only at hSW
    have ng := hSW.2
    have g1 := hSW.1.cell b1 nq
    have g2 := hSW.1.cell b2 nq
    have g3 := hSW.1.cell b3 nq
    have ha0 := hSW.1.cell ar0 nr
    have ha1 := hSW.1.cell ar1 nr
    have ha2 := hSW.1.cell ar2 nr
    go_simp
    try with_reducible rfl
  try simp only [Act.put, List.setIfInBounds_toArray, List.set_cons_zero, List.set_cons_succ]
  refine take_at (i := 2) (d := 64) (v := ?_) rfl rfl (by kernel_rfl) (by kernel_rfl) (by kernel_rfl) (fun _ _ _ h => h) (Or.inl ⟨by rfl, ?_⟩) (by assumption) ?_
  rotate_left
  · intro W hSW
    try dsimp only at hSW
    have ng := hSW.2
    have g1 := hSW.1.cell b1 nq
    have g2 := hSW.1.cell b2 nq
    have g3 := hSW.1.cell b3 nq
    have ha0 := hSW.1.cell ar0 nr
    have ha1 := hSW.1.cell ar1 nr
    have ha2 := hSW.1.cell ar2 nr
    go_simp
    try with_reducible rfl
  try simp only [Act.put, List.setIfInBounds_toArray, List.set_cons_zero, List.set_cons_succ]
  refine take_at (i := 3) (d := 65) (v := ?_) rfl rfl (by kernel_rfl) (by kernel_rfl) (by kernel_rfl) (fun _ _ _ h => h) (Or.inl ⟨by rfl, ?_⟩) (by assumption) ?_
  rotate_left
  · intro W hSW
    try dsimp only at hSW
    have ng := hSW.2
    have g1 := hSW.1.cell b1 nq
    have g2 := hSW.1.cell b2 nq
    have g3 := hSW.1.cell b3 nq
    have ha0 := hSW.1.cell ar0 nr
    have ha1 := hSW.1.cell ar1 nr
    have ha2 := hSW.1.cell ar2 nr
    go_simp
    try with_reducible rfl
  try simp only [Act.put, List.setIfInBounds_toArray, List.set_cons_zero, List.set_cons_succ]
  refine take_at (i := 4) (d := 66) (v := ?_) rfl rfl (by kernel_rfl) (by kernel_rfl) (by kernel_rfl) (fun _ _ _ h => h) (Or.inl ⟨by rfl, ?_⟩) (by assumption) ?_
  rotate_left
  · intro W hSW
    try dsimp only at hSW
    have ng := hSW.2
    have g1 := hSW.1.cell b1 nq
    have g2 := hSW.1.cell b2 nq
    have g3 := hSW.1.cell b3 nq
    have ha0 := hSW.1.cell ar0 nr
    have ha1 := hSW.1.cell ar1 nr
    have ha2 := hSW.1.cell ar2 nr
    go_simp
    try with_reducible rfl
  try simp only [Act.put, List.setIfInBounds_toArray, List.set_cons_zero, List.set_cons_succ]
  refine take_at (i := 5) (d := 67) (v := ?_) rfl rfl (by kernel_rfl) (by kernel_rfl) (by kernel_rfl) (fun _ _ _ h => h) (Or.inl ⟨by rfl, ?_⟩) (by assumption) ?_
  rotate_left
  · intro W hSW
    try dsimp only at hSW
    have ng := hSW.2
    have g1 := hSW.1.cell b1 nq
    have g2 := hSW.1.cell b2 nq
    have g3 := hSW.1.cell b3 nq
    have ha0 := hSW.1.cell ar0 nr
    have ha1 := hSW.1.cell ar1 nr
    have ha2 := hSW.1.cell ar2 nr
    go_simp
    try with_reducible rfl
  try simp only [Act.put, List.setIfInBounds_toArray, List.set_cons_zero, List.set_cons_succ]
  refine take_at (i := 6) (d := 68) (v := ?_) rfl rfl (by kernel_rfl) (by kernel_rfl) (by kernel_rfl) (fun _ _ _ h => h) (Or.inl ⟨by rfl, ?_⟩) (by assumption) ?_
  rotate_left
  · intro W hSW
    try dsimp only at hSW
    have ng := hSW.2
    have g1 := hSW.1.cell b1 nq
    have g2 := hSW.1.cell b2 nq
    have g3 := hSW.1.cell b3 nq
    have ha0 := hSW.1.cell ar0 nr
    have ha1 := hSW.1.cell ar1 nr
    have ha2 := hSW.1.cell ar2 nr
    go_simp
    try with_reducible rfl
  try simp only [Act.put, List.setIfInBounds_toArray, List.set_cons_zero, List.set_cons_succ]
  refine take_at (i := 7) (d := 69) (v := ?_) rfl rfl (by kernel_rfl) (by kernel_rfl) (by kernel_rfl) (fun _ _ _ h => h) (Or.inl ⟨by rfl, ?_⟩) (by assumption) ?_
  rotate_left
  · intro W hSW
    try dsimp only at hSW
    have ng := hSW.2
    have g1 := hSW.1.cell b1 nq
    have g2 := hSW.1.cell b2 nq
    have g3 := hSW.1.cell b3 nq
    have ha0 := hSW.1.cell ar0 nr
    have ha1 := hSW.1.cell ar1 nr
    have ha2 := hSW.1.cell ar2 nr
    go_simp
    try with_reducible rfl
  try simp only [Act.put, List.setIfInBounds_toArray, List.set_cons_zero, List.set_cons_succ]
  refine take_at (i := 8) (d := 70) (v := ?_) rfl rfl (by kernel_rfl) (by kernel_rfl) (by kernel_rfl) (fun _ _ _ h => h) (Or.inl ⟨by rfl, ?_⟩) (by assumption) ?_
  rotate_left
  · intro W hSW
    try dsimp only at hSW
    have ng := hSW.2
    have g1 := hSW.1.cell b1 nq
    have g2 := hSW.1.cell b2 nq
    have g3 := hSW.1.cell b3 nq
    have ha0 := hSW.1.cell ar0 nr
    have ha1 := hSW.1.cell ar1 nr
    have ha2 := hSW.1.cell ar2 nr
    go_simp
    try with_reducible rfl
  try simp only [Act.put, List.setIfInBounds_toArray, List.set_cons_zero, List.set_cons_succ]
  refine take_at (i := 9) (d := 71) (v := ?_) rfl rfl (by kernel_rfl) (by kernel_rfl) (by kernel_rfl) (fun _ _ _ h => h) (Or.inl ⟨by rfl, ?_⟩) (by assumption) ?_
  rotate_left
  · intro W hSW
    try dsimp only at hSW
    have ng := hSW.2
    have g1 := hSW.1.cell b1 nq
    have g2 := hSW.1.cell b2 nq
    have g3 := hSW.1.cell b3 nq
    have ha0 := hSW.1.cell ar0 nr
    have ha1 := hSW.1.cell ar1 nr
    have ha2 := hSW.1.cell ar2 nr
    go_simp
    try with_reducible rfl
  try simp only [Act.put, List.setIfInBounds_toArray, List.set_cons_zero, List.set_cons_succ]
  refine wpAnyH_ready (rs := [10]) (by kernel_rfl) (by simp) ?_
  refine AllReadyH.cons rfl (fun K hK => ?_) ?_
  · go_simp
    go_wp2_with (go_at_call 69; refine (Hput.out _ (grown_dr W)).mono ?_; rintro e w4 ⟨hD, hO, hc⟩; obtain ⟨rfl, hR, hk⟩ := hD)
    refine hK.out _ _ (⟨(Kp.drew _ _).then hO, hc⟩) (fun hHeld => ?_)
    clear hK K
    try simp only [Act.put, List.setIfInBounds_toArray, List.set_cons_zero, List.set_cons_succ]
    refine wpAnyH_done (by kernel_rfl) ?_ _
    go_wp2
    go_end0
    exact ⟨rfl, hR, (HG1.out.then (Kp.drew _ _)).then hk⟩
  exact AllReadyH.nil

end Go.Proofs.YtpoahegccjgnjaaGreatDoor

namespace Go.Proofs.YtpoahegccjgnjaaGreatDoor
open Go Go.RowKit
set_option linter.unusedVariables false

set_option maxRecDepth 100000 in
set_option maxHeartbeats 1000000 in
theorem xdo_store (B : Bd) (g : Nat) (tv rv pv ov kv : Value) (S : Ms) (x : V) (a : Nat) (b : Nat) (la : a < 6) (lb : b < 6) (c : Int) (w : World) (hM : Xm B w g tv S 0 zV false false rv pv ov kv) (h6 : S.rg.length = 6) (hp0 : 0 ≤ S.pc) (hp1 : S.pc ≤ 1000) (hp2 : S.pc ≤ 500) (ho : S.pu.length ≤ 100) :
    Calls Tryz.prog 14 #[.pointer (some ⟨g, 0, none⟩), (⟨12, (a : Int), (b : Int), c, x⟩ : In).val] w fun e w' => XP B w g tv ((S.to (S.pc + 1)).put ⟨(S.to (S.pc + 1)).at (a : Int), (S.to (S.pc + 1)).at (b : Int), false⟩) e w' := by
  obtain ⟨r, cap, rfl, hBr, hr, hrg⟩ := xt_cells hM h6
  have hgb := World.grownBy_alloc w (.cells #[.int .i64 12, .int .i64 (a : Int), .int .i64 (b : Int), .int .i64 c, .int .i64 x.k, .int .i64 x.n, .string x.s] 44) none
  have hb : Ib (w.alloc (.cells #[.int .i64 12, .int .i64 (a : Int), .int .i64 (b : Int), .int .i64 c, .int .i64 x.k, .int .i64 x.n, .string x.s] 44)) w.heap.size ⟨12, (a : Int), (b : Int), c, x⟩ := Ib.new w ⟨12, (a : Int), (b : Int), c, x⟩
  have hM1 := hM.keptN hgb
  have la' : (a : Int) < 6 := by omega
  have lb' : (b : Int) < 6 := by omega
  obtain ⟨R, HR⟩ : ∃ R : Rs, Hid (((S.to (S.pc + 1)).put ⟨(S.to (S.pc + 1)).at (a : Int), (S.to (S.pc + 1)).at (b : Int), false⟩) = R) := ⟨_, rfl⟩
  rw [HR.out]
  unfold In.val
  dsimp only
  go_enter Tryz.func14, Tryz.ntmps14
  go_upto_region 1 with fail
  have HG1 := hide (kp_n (B := B) hgb)
  generalize w.alloc (.cells #[.int .i64 12, .int .i64 (a : Int), .int .i64 (b : Int), .int .i64 c, .int .i64 x.k, .int .i64 x.n, .string x.s] 44) = W at *
  have hqg : g < w.heap.size := hM.lt
  generalize hq : w.heap.size = q at *
  have t0 := hM1.tb.c0
  have tf := hM1.tb.fz 0
  have hM2 := hM1.to (S.pc + 1)
  have hb2 := hb.kept hM2.2 (by simp; omega)
  have HG2 := hide (HG1.out.then (kp_of hM2.2 hM1.gB))
  obtain ⟨b0, b1, b2, b3, b4, b5, b6⟩ := hb.cs
  dsimp only at b0 b1 b2 b3 b4 b5 b6
  go_upto_region 2 with fail
  have HM2 := hide hM2.1
  clear t0 tf hM1 hb hM2 b0 b1 b2 b3 b4 b5 b6
  generalize W.setCell ⟨g, 0, none⟩ (.int .i64 (S.pc + 1)) = W2 at *
  obtain ⟨b0, b1, b2, b3, b4, b5, b6⟩ := hb2.cs
  dsimp only at b0 b1 b2 b3 b4 b5 b6
  have hM2 := HM2.out
  have t1 := hM2.tb.c1
  go_upto_region 3 with fail
  have hcall := xeff_store B g tv (.slice (some ⟨r, 0, none⟩) 6 cap) pv ov kv (S.to (S.pc + 1)) x a b la lb c W2 hM2 h6 (by show 0 ≤ S.pc + 1; omega) (by show S.pc + 1 ≤ 1000; omega) ho
  unfold In.val at hcall
  dsimp only at hcall
  go_wp2_with (go_at_call 47; refine hcall.mono ?_; rintro e w3 ⟨rfl, hR, hk⟩)
  go_end0
  exact ⟨rfl, by rw [← HR.out]; exact hR, HG2.out.then hk⟩
set_option maxRecDepth 100000 in
set_option maxHeartbeats 1000000 in
theorem xdo_drop (B : Bd) (g : Nat) (tv rv pv ov kv : Value) (S : Ms) (x : V) (a : Nat) (la : a < 6) (b c : Int) (w : World) (hM : Xm B w g tv S 0 zV false false rv pv ov kv) (h6 : S.rg.length = 6) (hp0 : 0 ≤ S.pc) (hp1 : S.pc ≤ 1000) (hp2 : S.pc ≤ 500) (ho : S.pu.length ≤ 100) :
    Calls Tryz.prog 14 #[.pointer (some ⟨g, 0, none⟩), (⟨13, (a : Int), b, c, x⟩ : In).val] w fun e w' => XP B w g tv ((S.to (S.pc + 1)).put ⟨(S.to (S.pc + 1)).at (a : Int), zV, true⟩) e w' := by
  obtain ⟨r, cap, rfl, hBr, hr, hrg⟩ := xt_cells hM h6
  have hgb := World.grownBy_alloc w (.cells #[.int .i64 13, .int .i64 (a : Int), .int .i64 b, .int .i64 c, .int .i64 x.k, .int .i64 x.n, .string x.s] 44) none
  have hb : Ib (w.alloc (.cells #[.int .i64 13, .int .i64 (a : Int), .int .i64 b, .int .i64 c, .int .i64 x.k, .int .i64 x.n, .string x.s] 44)) w.heap.size ⟨13, (a : Int), b, c, x⟩ := Ib.new w ⟨13, (a : Int), b, c, x⟩
  have hM1 := hM.keptN hgb
  have la' : (a : Int) < 6 := by omega
  obtain ⟨R, HR⟩ : ∃ R : Rs, Hid (((S.to (S.pc + 1)).put ⟨(S.to (S.pc + 1)).at (a : Int), zV, true⟩) = R) := ⟨_, rfl⟩
  rw [HR.out]
  unfold In.val
  dsimp only
  go_enter Tryz.func14, Tryz.ntmps14
  go_upto_region 1 with fail
  have HG1 := hide (kp_n (B := B) hgb)
  generalize w.alloc (.cells #[.int .i64 13, .int .i64 (a : Int), .int .i64 b, .int .i64 c, .int .i64 x.k, .int .i64 x.n, .string x.s] 44) = W at *
  have hqg : g < w.heap.size := hM.lt
  generalize hq : w.heap.size = q at *
  have t0 := hM1.tb.c0
  have tf := hM1.tb.fz 0
  have hM2 := hM1.to (S.pc + 1)
  have hb2 := hb.kept hM2.2 (by simp; omega)
  have HG2 := hide (HG1.out.then (kp_of hM2.2 hM1.gB))
  obtain ⟨b0, b1, b2, b3, b4, b5, b6⟩ := hb.cs
  dsimp only at b0 b1 b2 b3 b4 b5 b6
  go_upto_region 2 with fail
  have HM2 := hide hM2.1
  clear t0 tf hM1 hb hM2 b0 b1 b2 b3 b4 b5 b6
  generalize W.setCell ⟨g, 0, none⟩ (.int .i64 (S.pc + 1)) = W2 at *
  obtain ⟨b0, b1, b2, b3, b4, b5, b6⟩ := hb2.cs
  dsimp only at b0 b1 b2 b3 b4 b5 b6
  have hM2 := HM2.out
  have t1 := hM2.tb.c1
  go_upto_region 3 with fail
  have hcall := xeff_drop B g tv (.slice (some ⟨r, 0, none⟩) 6 cap) pv ov kv (S.to (S.pc + 1)) x a la b c W2 hM2 h6 (by show 0 ≤ S.pc + 1; omega) (by show S.pc + 1 ≤ 1000; omega) ho
  unfold In.val at hcall
  dsimp only at hcall
  go_wp2_with (go_at_call 47; refine hcall.mono ?_; rintro e w3 ⟨rfl, hR, hk⟩)
  go_end0
  exact ⟨rfl, by rw [← HR.out]; exact hR, HG2.out.then hk⟩
set_option maxRecDepth 100000 in
set_option maxHeartbeats 1000000 in
theorem xdo_emit (B : Bd) (g : Nat) (tv rv pv ov kv : Value) (S : Ms) (x : V) (a : Nat) (la : a < 6) (b c : Int) (w : World) (hM : Xm B w g tv S 0 zV false false rv pv ov kv) (h6 : S.rg.length = 6) (hp0 : 0 ≤ S.pc) (hp1 : S.pc ≤ 1000) (hp2 : S.pc ≤ 500) (ho : S.ou.length ≤ 100) :
    Calls Tryz.prog 14 #[.pointer (some ⟨g, 0, none⟩), (⟨14, (a : Int), b, c, x⟩ : In).val] w fun e w' => XP B w g tv (if (S.to (S.pc + 1)).ou.length + 1 ≤ 4 then Rs.go ⟨(S.to (S.pc + 1)).pc, (S.to (S.pc + 1)).rg, (S.to (S.pc + 1)).pu, (S.to (S.pc + 1)).ou ++ [(S.to (S.pc + 1)).at (a : Int)], (S.to (S.pc + 1)).ki, (S.to (S.pc + 1)).sl⟩ else Rs.bad) e w' := by
  obtain ⟨r, cap, rfl, hBr, hr, hrg⟩ := xt_cells hM h6
  have hgb := World.grownBy_alloc w (.cells #[.int .i64 14, .int .i64 (a : Int), .int .i64 b, .int .i64 c, .int .i64 x.k, .int .i64 x.n, .string x.s] 44) none
  have hb : Ib (w.alloc (.cells #[.int .i64 14, .int .i64 (a : Int), .int .i64 b, .int .i64 c, .int .i64 x.k, .int .i64 x.n, .string x.s] 44)) w.heap.size ⟨14, (a : Int), b, c, x⟩ := Ib.new w ⟨14, (a : Int), b, c, x⟩
  have hM1 := hM.keptN hgb
  have la' : (a : Int) < 6 := by omega
  obtain ⟨R, HR⟩ : ∃ R : Rs, Hid ((if (S.to (S.pc + 1)).ou.length + 1 ≤ 4 then Rs.go ⟨(S.to (S.pc + 1)).pc, (S.to (S.pc + 1)).rg, (S.to (S.pc + 1)).pu, (S.to (S.pc + 1)).ou ++ [(S.to (S.pc + 1)).at (a : Int)], (S.to (S.pc + 1)).ki, (S.to (S.pc + 1)).sl⟩ else Rs.bad) = R) := ⟨_, rfl⟩
  rw [HR.out]
  unfold In.val
  dsimp only
  go_enter Tryz.func14, Tryz.ntmps14
  go_upto_region 1 with fail
  have HG1 := hide (kp_n (B := B) hgb)
  generalize w.alloc (.cells #[.int .i64 14, .int .i64 (a : Int), .int .i64 b, .int .i64 c, .int .i64 x.k, .int .i64 x.n, .string x.s] 44) = W at *
  have hqg : g < w.heap.size := hM.lt
  generalize hq : w.heap.size = q at *
  have t0 := hM1.tb.c0
  have tf := hM1.tb.fz 0
  have hM2 := hM1.to (S.pc + 1)
  have hb2 := hb.kept hM2.2 (by simp; omega)
  have HG2 := hide (HG1.out.then (kp_of hM2.2 hM1.gB))
  obtain ⟨b0, b1, b2, b3, b4, b5, b6⟩ := hb.cs
  dsimp only at b0 b1 b2 b3 b4 b5 b6
  go_upto_region 2 with fail
  have HM2 := hide hM2.1
  clear t0 tf hM1 hb hM2 b0 b1 b2 b3 b4 b5 b6
  generalize W.setCell ⟨g, 0, none⟩ (.int .i64 (S.pc + 1)) = W2 at *
  obtain ⟨b0, b1, b2, b3, b4, b5, b6⟩ := hb2.cs
  dsimp only at b0 b1 b2 b3 b4 b5 b6
  have hM2 := HM2.out
  have t1 := hM2.tb.c1
  go_upto_region 3 with fail
  have hcall := xeff_emit B g tv (.slice (some ⟨r, 0, none⟩) 6 cap) pv ov kv (S.to (S.pc + 1)) x a la b c W2 hM2 h6 (by show 0 ≤ S.pc + 1; omega) (by show S.pc + 1 ≤ 1000; omega) ho
  unfold In.val at hcall
  dsimp only at hcall
  go_wp2_with (go_at_call 47; refine hcall.mono ?_; rintro e w3 ⟨rfl, hR, hk⟩)
  go_end0
  exact ⟨rfl, by rw [← HR.out]; exact hR, HG2.out.then hk⟩
set_option maxRecDepth 100000 in
set_option maxHeartbeats 1000000 in
theorem xdo_sleep (B : Bd) (g : Nat) (tv rv pv ov kv : Value) (S : Ms) (x : V) (a : Nat) (la : a < 6) (b c : Int) (w : World) (hM : Xm B w g tv S 0 zV false false rv pv ov kv) (h6 : S.rg.length = 6) (hp0 : 0 ≤ S.pc) (hp1 : S.pc ≤ 1000) (hp2 : S.pc ≤ 500) :
    Calls Tryz.prog 14 #[.pointer (some ⟨g, 0, none⟩), (⟨15, (a : Int), b, c, x⟩ : In).val] w fun e w' => XP B w g tv (if ((S.to (S.pc + 1)).at (a : Int)).k = 1 ∧ 0 ≤ ((S.to (S.pc + 1)).at (a : Int)).n ∧ ((S.to (S.pc + 1)).at (a : Int)).n ≤ 1000000 then Rs.go ⟨(S.to (S.pc + 1)).pc, (S.to (S.pc + 1)).rg, (S.to (S.pc + 1)).pu, (S.to (S.pc + 1)).ou, (S.to (S.pc + 1)).ki, ((S.to (S.pc + 1)).at (a : Int)).n⟩ else Rs.bad) e w' := by
  obtain ⟨r, cap, rfl, hBr, hr, hrg⟩ := xt_cells hM h6
  have hgb := World.grownBy_alloc w (.cells #[.int .i64 15, .int .i64 (a : Int), .int .i64 b, .int .i64 c, .int .i64 x.k, .int .i64 x.n, .string x.s] 44) none
  have hb : Ib (w.alloc (.cells #[.int .i64 15, .int .i64 (a : Int), .int .i64 b, .int .i64 c, .int .i64 x.k, .int .i64 x.n, .string x.s] 44)) w.heap.size ⟨15, (a : Int), b, c, x⟩ := Ib.new w ⟨15, (a : Int), b, c, x⟩
  have hM1 := hM.keptN hgb
  have la' : (a : Int) < 6 := by omega
  obtain ⟨R, HR⟩ : ∃ R : Rs, Hid ((if ((S.to (S.pc + 1)).at (a : Int)).k = 1 ∧ 0 ≤ ((S.to (S.pc + 1)).at (a : Int)).n ∧ ((S.to (S.pc + 1)).at (a : Int)).n ≤ 1000000 then Rs.go ⟨(S.to (S.pc + 1)).pc, (S.to (S.pc + 1)).rg, (S.to (S.pc + 1)).pu, (S.to (S.pc + 1)).ou, (S.to (S.pc + 1)).ki, ((S.to (S.pc + 1)).at (a : Int)).n⟩ else Rs.bad) = R) := ⟨_, rfl⟩
  rw [HR.out]
  unfold In.val
  dsimp only
  go_enter Tryz.func14, Tryz.ntmps14
  go_upto_region 1 with fail
  have HG1 := hide (kp_n (B := B) hgb)
  generalize w.alloc (.cells #[.int .i64 15, .int .i64 (a : Int), .int .i64 b, .int .i64 c, .int .i64 x.k, .int .i64 x.n, .string x.s] 44) = W at *
  have hqg : g < w.heap.size := hM.lt
  generalize hq : w.heap.size = q at *
  have t0 := hM1.tb.c0
  have tf := hM1.tb.fz 0
  have hM2 := hM1.to (S.pc + 1)
  have hb2 := hb.kept hM2.2 (by simp; omega)
  have HG2 := hide (HG1.out.then (kp_of hM2.2 hM1.gB))
  obtain ⟨b0, b1, b2, b3, b4, b5, b6⟩ := hb.cs
  dsimp only at b0 b1 b2 b3 b4 b5 b6
  go_upto_region 2 with fail
  have HM2 := hide hM2.1
  clear t0 tf hM1 hb hM2 b0 b1 b2 b3 b4 b5 b6
  generalize W.setCell ⟨g, 0, none⟩ (.int .i64 (S.pc + 1)) = W2 at *
  obtain ⟨b0, b1, b2, b3, b4, b5, b6⟩ := hb2.cs
  dsimp only at b0 b1 b2 b3 b4 b5 b6
  have hM2 := HM2.out
  have t1 := hM2.tb.c1
  go_upto_region 3 with fail
  have hcall := xeff_sleep B g tv (.slice (some ⟨r, 0, none⟩) 6 cap) pv ov kv (S.to (S.pc + 1)) x a la b c W2 hM2 h6 (by show 0 ≤ S.pc + 1; omega) (by show S.pc + 1 ≤ 1000; omega)
  unfold In.val at hcall
  dsimp only at hcall
  go_wp2_with (go_at_call 47; refine hcall.mono ?_; rintro e w3 ⟨rfl, hR, hk⟩)
  go_end0
  exact ⟨rfl, by rw [← HR.out]; exact hR, HG2.out.then hk⟩
set_option maxRecDepth 100000 in
set_option maxHeartbeats 1000000 in
theorem xdo_child (B : Bd) (g : Nat) (tv rv pv ov kv : Value) (S : Ms) (x : V) (b : Nat) (c : Nat) (lb : b < 6) (lc : c < 6) (a : Int) (w : World) (hM : Xm B w g tv S 0 zV false false rv pv ov kv) (h6 : S.rg.length = 6) (hp0 : 0 ≤ S.pc) (hp1 : S.pc ≤ 1000) (hp2 : S.pc ≤ 500) (ho : S.ki.length ≤ 100) :
    Calls Tryz.prog 14 #[.pointer (some ⟨g, 0, none⟩), (⟨16, a, (b : Int), (c : Int), x⟩ : In).val] w fun e w' => XP B w g tv (if (S.to (S.pc + 1)).ki.length + 1 ≤ 2 then Rs.go ⟨(S.to (S.pc + 1)).pc, (S.to (S.pc + 1)).rg, (S.to (S.pc + 1)).pu, (S.to (S.pc + 1)).ou, (S.to (S.pc + 1)).ki ++ [Sp.mk a ((S.to (S.pc + 1)).at (b : Int)) ((S.to (S.pc + 1)).at (c : Int))], (S.to (S.pc + 1)).sl⟩ else Rs.bad) e w' := by
  obtain ⟨r, cap, rfl, hBr, hr, hrg⟩ := xt_cells hM h6
  have hgb := World.grownBy_alloc w (.cells #[.int .i64 16, .int .i64 a, .int .i64 (b : Int), .int .i64 (c : Int), .int .i64 x.k, .int .i64 x.n, .string x.s] 44) none
  have hb : Ib (w.alloc (.cells #[.int .i64 16, .int .i64 a, .int .i64 (b : Int), .int .i64 (c : Int), .int .i64 x.k, .int .i64 x.n, .string x.s] 44)) w.heap.size ⟨16, a, (b : Int), (c : Int), x⟩ := Ib.new w ⟨16, a, (b : Int), (c : Int), x⟩
  have hM1 := hM.keptN hgb
  have lb' : (b : Int) < 6 := by omega
  have lc' : (c : Int) < 6 := by omega
  obtain ⟨R, HR⟩ : ∃ R : Rs, Hid ((if (S.to (S.pc + 1)).ki.length + 1 ≤ 2 then Rs.go ⟨(S.to (S.pc + 1)).pc, (S.to (S.pc + 1)).rg, (S.to (S.pc + 1)).pu, (S.to (S.pc + 1)).ou, (S.to (S.pc + 1)).ki ++ [Sp.mk a ((S.to (S.pc + 1)).at (b : Int)) ((S.to (S.pc + 1)).at (c : Int))], (S.to (S.pc + 1)).sl⟩ else Rs.bad) = R) := ⟨_, rfl⟩
  rw [HR.out]
  unfold In.val
  dsimp only
  go_enter Tryz.func14, Tryz.ntmps14
  go_upto_region 1 with fail
  have HG1 := hide (kp_n (B := B) hgb)
  generalize w.alloc (.cells #[.int .i64 16, .int .i64 a, .int .i64 (b : Int), .int .i64 (c : Int), .int .i64 x.k, .int .i64 x.n, .string x.s] 44) = W at *
  have hqg : g < w.heap.size := hM.lt
  generalize hq : w.heap.size = q at *
  have t0 := hM1.tb.c0
  have tf := hM1.tb.fz 0
  have hM2 := hM1.to (S.pc + 1)
  have hb2 := hb.kept hM2.2 (by simp; omega)
  have HG2 := hide (HG1.out.then (kp_of hM2.2 hM1.gB))
  obtain ⟨b0, b1, b2, b3, b4, b5, b6⟩ := hb.cs
  dsimp only at b0 b1 b2 b3 b4 b5 b6
  go_upto_region 2 with fail
  have HM2 := hide hM2.1
  clear t0 tf hM1 hb hM2 b0 b1 b2 b3 b4 b5 b6
  generalize W.setCell ⟨g, 0, none⟩ (.int .i64 (S.pc + 1)) = W2 at *
  obtain ⟨b0, b1, b2, b3, b4, b5, b6⟩ := hb2.cs
  dsimp only at b0 b1 b2 b3 b4 b5 b6
  have hM2 := HM2.out
  have t1 := hM2.tb.c1
  go_upto_region 3 with fail
  have hcall := xeff_child B g tv (.slice (some ⟨r, 0, none⟩) 6 cap) pv ov kv (S.to (S.pc + 1)) x b c lb lc a W2 hM2 h6 (by show 0 ≤ S.pc + 1; omega) (by show S.pc + 1 ≤ 1000; omega) ho
  unfold In.val at hcall
  dsimp only at hcall
  go_wp2_with (go_at_call 47; refine hcall.mono ?_; rintro e w3 ⟨rfl, hR, hk⟩)
  go_end0
  exact ⟨rfl, by rw [← HR.out]; exact hR, HG2.out.then hk⟩
set_option maxRecDepth 100000 in
set_option maxHeartbeats 1000000 in
theorem xdo_goes (B : Bd) (g : Nat) (tv rv pv ov kv : Value) (S : Ms) (x : V) (a b c : Int) (w : World) (hM : Xm B w g tv S 0 zV false false rv pv ov kv) (h6 : S.rg.length = 6) (hp0 : 0 ≤ S.pc) (hp1 : S.pc ≤ 1000) (hp2 : S.pc ≤ 500) :
    Calls Tryz.prog 14 #[.pointer (some ⟨g, 0, none⟩), (⟨17, a, b, c, x⟩ : In).val] w fun e w' => XP B w g tv (.fin (S.to (S.pc + 1)) 0 zV) e w' := by
  obtain ⟨r, cap, rfl, hBr, hr, hrg⟩ := xt_cells hM h6
  have hgb := World.grownBy_alloc w (.cells #[.int .i64 17, .int .i64 a, .int .i64 b, .int .i64 c, .int .i64 x.k, .int .i64 x.n, .string x.s] 44) none
  have hb : Ib (w.alloc (.cells #[.int .i64 17, .int .i64 a, .int .i64 b, .int .i64 c, .int .i64 x.k, .int .i64 x.n, .string x.s] 44)) w.heap.size ⟨17, a, b, c, x⟩ := Ib.new w ⟨17, a, b, c, x⟩
  have hM1 := hM.keptN hgb
  obtain ⟨R, HR⟩ : ∃ R : Rs, Hid ((.fin (S.to (S.pc + 1)) 0 zV) = R) := ⟨_, rfl⟩
  rw [HR.out]
  unfold In.val
  dsimp only
  go_enter Tryz.func14, Tryz.ntmps14
  go_upto_region 1 with fail
  have HG1 := hide (kp_n (B := B) hgb)
  generalize w.alloc (.cells #[.int .i64 17, .int .i64 a, .int .i64 b, .int .i64 c, .int .i64 x.k, .int .i64 x.n, .string x.s] 44) = W at *
  have hqg : g < w.heap.size := hM.lt
  generalize hq : w.heap.size = q at *
  have t0 := hM1.tb.c0
  have tf := hM1.tb.fz 0
  have hM2 := hM1.to (S.pc + 1)
  have hb2 := hb.kept hM2.2 (by simp; omega)
  have HG2 := hide (HG1.out.then (kp_of hM2.2 hM1.gB))
  obtain ⟨b0, b1, b2, b3, b4, b5, b6⟩ := hb.cs
  dsimp only at b0 b1 b2 b3 b4 b5 b6
  go_upto_region 2 with fail
  have HM2 := hide hM2.1
  clear t0 tf hM1 hb hM2 b0 b1 b2 b3 b4 b5 b6
  generalize W.setCell ⟨g, 0, none⟩ (.int .i64 (S.pc + 1)) = W2 at *
  obtain ⟨b0, b1, b2, b3, b4, b5, b6⟩ := hb2.cs
  dsimp only at b0 b1 b2 b3 b4 b5 b6
  have hM2 := HM2.out
  have t1 := hM2.tb.c1
  go_upto_region 3 with fail
  have hcall := xeff_goes B g tv (.slice (some ⟨r, 0, none⟩) 6 cap) pv ov kv (S.to (S.pc + 1)) x  a b c W2 hM2 h6 (by show 0 ≤ S.pc + 1; omega) (by show S.pc + 1 ≤ 1000; omega)
  unfold In.val at hcall
  dsimp only at hcall
  go_wp2_with (go_at_call 47; refine hcall.mono ?_; rintro e w3 ⟨rfl, hR, hk⟩)
  go_end0
  exact ⟨rfl, by rw [← HR.out]; exact hR, HG2.out.then hk⟩
set_option maxRecDepth 100000 in
set_option maxHeartbeats 1000000 in
theorem xdo_done (B : Bd) (g : Nat) (tv rv pv ov kv : Value) (S : Ms) (x : V) (a : Nat) (la : a < 6) (b c : Int) (w : World) (hM : Xm B w g tv S 0 zV false false rv pv ov kv) (h6 : S.rg.length = 6) (hp0 : 0 ≤ S.pc) (hp1 : S.pc ≤ 1000) (hp2 : S.pc ≤ 500) :
    Calls Tryz.prog 14 #[.pointer (some ⟨g, 0, none⟩), (⟨18, (a : Int), b, c, x⟩ : In).val] w fun e w' => XP B w g tv (.fin (S.to (S.pc + 1)) 1 ((S.to (S.pc + 1)).at (a : Int))) e w' := by
  obtain ⟨r, cap, rfl, hBr, hr, hrg⟩ := xt_cells hM h6
  have hgb := World.grownBy_alloc w (.cells #[.int .i64 18, .int .i64 (a : Int), .int .i64 b, .int .i64 c, .int .i64 x.k, .int .i64 x.n, .string x.s] 44) none
  have hb : Ib (w.alloc (.cells #[.int .i64 18, .int .i64 (a : Int), .int .i64 b, .int .i64 c, .int .i64 x.k, .int .i64 x.n, .string x.s] 44)) w.heap.size ⟨18, (a : Int), b, c, x⟩ := Ib.new w ⟨18, (a : Int), b, c, x⟩
  have hM1 := hM.keptN hgb
  have la' : (a : Int) < 6 := by omega
  obtain ⟨R, HR⟩ : ∃ R : Rs, Hid ((.fin (S.to (S.pc + 1)) 1 ((S.to (S.pc + 1)).at (a : Int))) = R) := ⟨_, rfl⟩
  rw [HR.out]
  unfold In.val
  dsimp only
  go_enter Tryz.func14, Tryz.ntmps14
  go_upto_region 1 with fail
  have HG1 := hide (kp_n (B := B) hgb)
  generalize w.alloc (.cells #[.int .i64 18, .int .i64 (a : Int), .int .i64 b, .int .i64 c, .int .i64 x.k, .int .i64 x.n, .string x.s] 44) = W at *
  have hqg : g < w.heap.size := hM.lt
  generalize hq : w.heap.size = q at *
  have t0 := hM1.tb.c0
  have tf := hM1.tb.fz 0
  have hM2 := hM1.to (S.pc + 1)
  have hb2 := hb.kept hM2.2 (by simp; omega)
  have HG2 := hide (HG1.out.then (kp_of hM2.2 hM1.gB))
  obtain ⟨b0, b1, b2, b3, b4, b5, b6⟩ := hb.cs
  dsimp only at b0 b1 b2 b3 b4 b5 b6
  go_upto_region 2 with fail
  have HM2 := hide hM2.1
  clear t0 tf hM1 hb hM2 b0 b1 b2 b3 b4 b5 b6
  generalize W.setCell ⟨g, 0, none⟩ (.int .i64 (S.pc + 1)) = W2 at *
  obtain ⟨b0, b1, b2, b3, b4, b5, b6⟩ := hb2.cs
  dsimp only at b0 b1 b2 b3 b4 b5 b6
  have hM2 := HM2.out
  have t1 := hM2.tb.c1
  go_upto_region 3 with fail
  have hcall := xeff_done B g tv (.slice (some ⟨r, 0, none⟩) 6 cap) pv ov kv (S.to (S.pc + 1)) x a la b c W2 hM2 h6 (by show 0 ≤ S.pc + 1; omega) (by show S.pc + 1 ≤ 1000; omega)
  unfold In.val at hcall
  dsimp only at hcall
  go_wp2_with (go_at_call 47; refine hcall.mono ?_; rintro e w3 ⟨rfl, hR, hk⟩)
  go_end0
  exact ⟨rfl, by rw [← HR.out]; exact hR, HG2.out.then hk⟩
set_option maxRecDepth 100000 in
set_option maxHeartbeats 1000000 in
theorem xdo_fail (B : Bd) (g : Nat) (tv rv pv ov kv : Value) (S : Ms) (x : V) (a : Nat) (la : a < 6) (b c : Int) (w : World) (hM : Xm B w g tv S 0 zV false false rv pv ov kv) (h6 : S.rg.length = 6) (hp0 : 0 ≤ S.pc) (hp1 : S.pc ≤ 1000) (hp2 : S.pc ≤ 500) :
    Calls Tryz.prog 14 #[.pointer (some ⟨g, 0, none⟩), (⟨19, (a : Int), b, c, x⟩ : In).val] w fun e w' => XP B w g tv (.fin (S.to (S.pc + 1)) 2 ((S.to (S.pc + 1)).at (a : Int))) e w' := by
  obtain ⟨r, cap, rfl, hBr, hr, hrg⟩ := xt_cells hM h6
  have hgb := World.grownBy_alloc w (.cells #[.int .i64 19, .int .i64 (a : Int), .int .i64 b, .int .i64 c, .int .i64 x.k, .int .i64 x.n, .string x.s] 44) none
  have hb : Ib (w.alloc (.cells #[.int .i64 19, .int .i64 (a : Int), .int .i64 b, .int .i64 c, .int .i64 x.k, .int .i64 x.n, .string x.s] 44)) w.heap.size ⟨19, (a : Int), b, c, x⟩ := Ib.new w ⟨19, (a : Int), b, c, x⟩
  have hM1 := hM.keptN hgb
  have la' : (a : Int) < 6 := by omega
  obtain ⟨R, HR⟩ : ∃ R : Rs, Hid ((.fin (S.to (S.pc + 1)) 2 ((S.to (S.pc + 1)).at (a : Int))) = R) := ⟨_, rfl⟩
  rw [HR.out]
  unfold In.val
  dsimp only
  go_enter Tryz.func14, Tryz.ntmps14
  go_upto_region 1 with fail
  have HG1 := hide (kp_n (B := B) hgb)
  generalize w.alloc (.cells #[.int .i64 19, .int .i64 (a : Int), .int .i64 b, .int .i64 c, .int .i64 x.k, .int .i64 x.n, .string x.s] 44) = W at *
  have hqg : g < w.heap.size := hM.lt
  generalize hq : w.heap.size = q at *
  have t0 := hM1.tb.c0
  have tf := hM1.tb.fz 0
  have hM2 := hM1.to (S.pc + 1)
  have hb2 := hb.kept hM2.2 (by simp; omega)
  have HG2 := hide (HG1.out.then (kp_of hM2.2 hM1.gB))
  obtain ⟨b0, b1, b2, b3, b4, b5, b6⟩ := hb.cs
  dsimp only at b0 b1 b2 b3 b4 b5 b6
  go_upto_region 2 with fail
  have HM2 := hide hM2.1
  clear t0 tf hM1 hb hM2 b0 b1 b2 b3 b4 b5 b6
  generalize W.setCell ⟨g, 0, none⟩ (.int .i64 (S.pc + 1)) = W2 at *
  obtain ⟨b0, b1, b2, b3, b4, b5, b6⟩ := hb2.cs
  dsimp only at b0 b1 b2 b3 b4 b5 b6
  have hM2 := HM2.out
  have t1 := hM2.tb.c1
  go_upto_region 3 with fail
  have hcall := xeff_fail B g tv (.slice (some ⟨r, 0, none⟩) 6 cap) pv ov kv (S.to (S.pc + 1)) x a la b c W2 hM2 h6 (by show 0 ≤ S.pc + 1; omega) (by show S.pc + 1 ≤ 1000; omega)
  unfold In.val at hcall
  dsimp only at hcall
  go_wp2_with (go_at_call 47; refine hcall.mono ?_; rintro e w3 ⟨rfl, hR, hk⟩)
  go_end0
  exact ⟨rfl, by rw [← HR.out]; exact hR, HG2.out.then hk⟩

end Go.Proofs.YtpoahegccjgnjaaGreatDoor
