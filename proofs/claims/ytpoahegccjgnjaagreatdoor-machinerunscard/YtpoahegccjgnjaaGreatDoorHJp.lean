/- Contracts, over the turned program: machine's deeds that end a step. Conditions: those that each theorem states. Contracts, over the turned program: machine's deeds that end a step. Conditions: those that each theorem states. -/
import Derived.Test.YtpoahegccjgnjaaGreatDoorHJa
namespace Go.Proofs.YtpoahegccjgnjaaGreatDoor
open Go.RowKit
set_option linter.unusedVariables false

set_option maxRecDepth 100000 in
set_option maxHeartbeats 1000000 in
theorem m_end (w : World) (g : Nat) (tv rv pv ov kv fr : Value) (pc sl fp way : Int) (v : V) (hT : Tb w g tv pc rv pv ov kv sl 0 v fp fr false) :
    Calls Tryz.prog 66 #[.pointer (some ⟨g, 0, none⟩), .int .i64 way] w fun e w' => e = .returned (.tuple #[]) ∧ Tb w' g tv pc rv pv ov kv sl way v fp fr true ∧ w.grownBy w' (some g) := by
  have h1 := hT.sEd true
  have h2 := h1.1.sEn way
  have f13 := hT.fz 13
  have c13 := hT.c13
  have f7 := h1.1.fz 7
  have c7 := h1.1.c7
  have HT2 := hide h2.1
  have HG := hide (grown_trans h1.2 h2.2 (.inl rfl))
  clear h1 h2
  go_enter Tryz.func66, Tryz.ntmps66
  go_wp2
  go_end0
  exact ⟨rfl, HT2.out, HG.out⟩

end Go.Proofs.YtpoahegccjgnjaaGreatDoor

namespace Go.Proofs.YtpoahegccjgnjaaGreatDoor
open Go.RowKit
set_option linter.unusedVariables false

set_option maxRecDepth 100000 in
set_option maxHeartbeats 1000000 in
theorem m_goes (B : Bd) (g : Nat) (tv rv pv ov kv : Value) (S : Ms) (xv : Value) (hxv : ∃ op a b c k n s, xv = .agg #[.int .i64 op, .int .i64 a, .int .i64 b, .int .i64 c, .int .i64 k, .int .i64 n, .string s]) (w : World) (hM : Mb B w g tv S rv pv ov kv) (h6 : S.rg.length = 6) :
    Calls Tryz.prog 39 #[.pointer (some ⟨g, 0, none⟩), xv] w fun e w' => DP B w g tv (.fin S 0 zV) e w' := by
  obtain ⟨op, a, b, c, k, n, s, rfl⟩ := hxv
  obtain ⟨r, cap, rfl, hBr, hr, hrg⟩ := at_cells hM h6
  have hgb := World.grownBy_alloc w (.cells #[.int .i64 op, .int .i64 a, .int .i64 b, .int .i64 c, .int .i64 k, .int .i64 n, .string s] 44) none
  have hM1 := hM.keptN hgb
  have hcall := m_end _ g tv _ pv ov kv _ _ _ _ 0 _ hM1.tb
  go_enter Tryz.func39, Tryz.ntmps39
  go_upto_region 2 with (go_at_call 66; refine hcall.mono ?_; rintro e w2 ⟨rfl, hT2, hg2⟩)
  have hO := hM1.own hg2
  have HG2 := hide ((kp_n (B := B) hgb).then (kp_of hg2 hM1.gB))
  have t1 := hT2.c1
  have t2 := hT2.c2
  have t11 := hT2.c11
  have t12 := hT2.c12
  have tf := hT2.fz
  have hP := hT2.sFr S.pc (.slice (some ⟨r, 0, none⟩) 6 cap)
  have HK := hide (HG2.out.then (kp_of hP.2 hM1.gB))
  have HT3 := hide hP.1
  have HO := hide hO
  have HP2 := hide hP.2
  have HAP := hide hM1.ap
  clear hP hO hM1 hM hcall
  go_region
  go_wp2
  go_ret
  have ht := HT3.out.kept (grown_dr _) (by simp)
  exact ⟨true, rfl, ⟨rfl, _, _, _, _, ⟨_, _, ht, .inl ⟨rfl, rfl, rfl⟩⟩, (HO.out.1.kept HP2.out (ne_of fun k e => (HAP.out.r k e).1)).keptN (grown_dr _), (HO.out.2.1.kept HP2.out (ne_of fun k e => (HAP.out.p k e).1)).keptN (grown_dr _), (HO.out.2.2.1.kept HP2.out (ne_of fun k e => (HAP.out.o k e).1)).keptN (grown_dr _), (HO.out.2.2.2.kept HP2.out (ne_of fun k e => HAP.out.k k e)).keptN (grown_dr _)⟩, HK.out.then (Kp.drew _ _)⟩

set_option maxRecDepth 100000 in
set_option maxHeartbeats 1000000 in
theorem m_done (B : Bd) (g : Nat) (tv rv pv ov kv : Value) (S : Ms) (x : V) (op b c : Int) (a : Nat) (la : a < 6) (w : World) (hM : Mb B w g tv S rv pv ov kv) (h6 : S.rg.length = 6) :
    Calls Tryz.prog 40 #[.pointer (some ⟨g, 0, none⟩), (⟨op, (a : Int), b, c, x⟩ : In).val] w fun e w' => DP B w g tv (.fin S 1 (S.at (a : Int))) e w' := by
  obtain ⟨r, cap, rfl, hBr, hr, hrg⟩ := at_cells hM h6
  have hgb := World.grownBy_alloc w (.cells #[.int .i64 op, .int .i64 (a : Int), .int .i64 b, .int .i64 c, .int .i64 x.k, .int .i64 x.n, .string x.s] 44) none
  have hb : Ib (w.alloc (.cells #[.int .i64 op, .int .i64 (a : Int), .int .i64 b, .int .i64 c, .int .i64 x.k, .int .i64 x.n, .string x.s] 44)) w.heap.size ⟨op, (a : Int), b, c, x⟩ := Ib.new w ⟨op, (a : Int), b, c, x⟩
  have hM1 := hM.keptN hgb
  have la' : (a : Int) < 6 := by omega
  unfold In.val
  dsimp only
  go_enter Tryz.func40, Tryz.ntmps40
  go_upto_region 1 with fail
  have HG1 := hide (kp_n (B := B) hgb)
  generalize w.alloc (.cells #[.int .i64 op, .int .i64 (a : Int), .int .i64 b, .int .i64 c, .int .i64 x.k, .int .i64 x.n, .string x.s] 44) = W at *
  have hqg : g < w.heap.size := hM.lt
  generalize hq : w.heap.size = q at *
  have hcall := m_end W g tv _ pv ov kv _ _ _ _ 1 _ hM1.tb
  obtain ⟨b0, b1, b2, b3, b4, b5, b6⟩ := hb.cs
  dsimp only at b0 b1 b2 b3 b4 b5 b6
  go_upto_region 2 with (go_at_call 66; refine hcall.mono ?_; rintro e w2 ⟨rfl, hT2, hg2⟩)
  have hO := hM1.own hg2
  have HG2 := hide (HG1.out.then (kp_of hg2 hM1.gB))
  have hb2 := hb.kept hg2 (by simp; omega)
  clear b0 b1 b2 b3 b4 b5 b6
  obtain ⟨b0, b1, b2, b3, b4, b5, b6⟩ := hb2.cs
  dsimp only at b0 b1 b2 b3 b4 b5 b6
  have t2 := hT2.c2
  have t8 := hT2.c8
  have t9 := hT2.c9
  have t10 := hT2.c10
  have tf := hT2.fz
  have hl : a < S.rg.length := by omega
  have eat : S.at (a : Int) = S.rg[a] := by unfold Ms.at; rw [Int.toNat_natCast]; exact getD_lt _ _ _ hl
  have hc := fun j u hu => OwR.cells (r := r) hO.1 clV rfl a hl j u hu
  rw [← eat] at hc
  have ar0 : w2.cell? ⟨r, a * 3, none⟩ = some (.int .i64 (S.at (a : Int)).k) := hc 0 _ rfl
  have ar1 : w2.cell? ⟨r, a * 3 + 1, none⟩ = some (.int .i64 (S.at (a : Int)).n) := hc 1 _ rfl
  have ar2 : w2.cell? ⟨r, a * 3 + 2, none⟩ = some (.string (S.at (a : Int)).s) := hc 2 _ rfl
  have hP := hT2.sVa (S.at (a : Int))
  have HK := hide (HG2.out.then (kp_of hP.2 hM1.gB))
  have HT3 := hide hP.1
  have HO := hide hO
  have HP2 := hide hP.2
  have HAP := hide hM1.ap
  clear hP hc eat hO hM1 hM hcall
  go_region
  go_wp2
  go_ret
  have ht := HT3.out.kept (grown_dr _) (by simp)
  exact ⟨true, rfl, ⟨rfl, _, _, _, _, ⟨_, _, ht, .inr ⟨by decide, rfl, rfl⟩⟩, (HO.out.1.kept HP2.out (ne_of fun k e => (HAP.out.r k e).1)).keptN (grown_dr _), (HO.out.2.1.kept HP2.out (ne_of fun k e => (HAP.out.p k e).1)).keptN (grown_dr _), (HO.out.2.2.1.kept HP2.out (ne_of fun k e => (HAP.out.o k e).1)).keptN (grown_dr _), (HO.out.2.2.2.kept HP2.out (ne_of fun k e => HAP.out.k k e)).keptN (grown_dr _)⟩, HK.out.then (Kp.drew _ _)⟩

set_option maxRecDepth 100000 in
set_option maxHeartbeats 1000000 in
theorem m_fail (B : Bd) (g : Nat) (tv rv pv ov kv : Value) (S : Ms) (x : V) (op b c : Int) (a : Nat) (la : a < 6) (w : World) (hM : Mb B w g tv S rv pv ov kv) (h6 : S.rg.length = 6) :
    Calls Tryz.prog 41 #[.pointer (some ⟨g, 0, none⟩), (⟨op, (a : Int), b, c, x⟩ : In).val] w fun e w' => DP B w g tv (.fin S 2 (S.at (a : Int))) e w' := by
  obtain ⟨r, cap, rfl, hBr, hr, hrg⟩ := at_cells hM h6
  have hgb := World.grownBy_alloc w (.cells #[.int .i64 op, .int .i64 (a : Int), .int .i64 b, .int .i64 c, .int .i64 x.k, .int .i64 x.n, .string x.s] 44) none
  have hb : Ib (w.alloc (.cells #[.int .i64 op, .int .i64 (a : Int), .int .i64 b, .int .i64 c, .int .i64 x.k, .int .i64 x.n, .string x.s] 44)) w.heap.size ⟨op, (a : Int), b, c, x⟩ := Ib.new w ⟨op, (a : Int), b, c, x⟩
  have hM1 := hM.keptN hgb
  have la' : (a : Int) < 6 := by omega
  unfold In.val
  dsimp only
  go_enter Tryz.func41, Tryz.ntmps41
  go_upto_region 1 with fail
  have HG1 := hide (kp_n (B := B) hgb)
  generalize w.alloc (.cells #[.int .i64 op, .int .i64 (a : Int), .int .i64 b, .int .i64 c, .int .i64 x.k, .int .i64 x.n, .string x.s] 44) = W at *
  have hqg : g < w.heap.size := hM.lt
  generalize hq : w.heap.size = q at *
  have hcall := m_end W g tv _ pv ov kv _ _ _ _ 2 _ hM1.tb
  obtain ⟨b0, b1, b2, b3, b4, b5, b6⟩ := hb.cs
  dsimp only at b0 b1 b2 b3 b4 b5 b6
  go_upto_region 2 with (go_at_call 66; refine hcall.mono ?_; rintro e w2 ⟨rfl, hT2, hg2⟩)
  have hO := hM1.own hg2
  have HG2 := hide (HG1.out.then (kp_of hg2 hM1.gB))
  have hb2 := hb.kept hg2 (by simp; omega)
  clear b0 b1 b2 b3 b4 b5 b6
  obtain ⟨b0, b1, b2, b3, b4, b5, b6⟩ := hb2.cs
  dsimp only at b0 b1 b2 b3 b4 b5 b6
  have t2 := hT2.c2
  have t8 := hT2.c8
  have t9 := hT2.c9
  have t10 := hT2.c10
  have tf := hT2.fz
  have hl : a < S.rg.length := by omega
  have eat : S.at (a : Int) = S.rg[a] := by unfold Ms.at; rw [Int.toNat_natCast]; exact getD_lt _ _ _ hl
  have hc := fun j u hu => OwR.cells (r := r) hO.1 clV rfl a hl j u hu
  rw [← eat] at hc
  have ar0 : w2.cell? ⟨r, a * 3, none⟩ = some (.int .i64 (S.at (a : Int)).k) := hc 0 _ rfl
  have ar1 : w2.cell? ⟨r, a * 3 + 1, none⟩ = some (.int .i64 (S.at (a : Int)).n) := hc 1 _ rfl
  have ar2 : w2.cell? ⟨r, a * 3 + 2, none⟩ = some (.string (S.at (a : Int)).s) := hc 2 _ rfl
  have hP := hT2.sVa (S.at (a : Int))
  have HK := hide (HG2.out.then (kp_of hP.2 hM1.gB))
  have HT3 := hide hP.1
  have HO := hide hO
  have HP2 := hide hP.2
  have HAP := hide hM1.ap
  clear hP hc eat hO hM1 hM hcall
  go_region
  go_wp2
  go_ret
  have ht := HT3.out.kept (grown_dr _) (by simp)
  exact ⟨true, rfl, ⟨rfl, _, _, _, _, ⟨_, _, ht, .inr ⟨by decide, rfl, rfl⟩⟩, (HO.out.1.kept HP2.out (ne_of fun k e => (HAP.out.r k e).1)).keptN (grown_dr _), (HO.out.2.1.kept HP2.out (ne_of fun k e => (HAP.out.p k e).1)).keptN (grown_dr _), (HO.out.2.2.1.kept HP2.out (ne_of fun k e => (HAP.out.o k e).1)).keptN (grown_dr _), (HO.out.2.2.2.kept HP2.out (ne_of fun k e => HAP.out.k k e)).keptN (grown_dr _)⟩, HK.out.then (Kp.drew _ _)⟩


end Go.Proofs.YtpoahegccjgnjaaGreatDoor
