/- Contract, over the turned program: machine's deed that lays two texts together. Conditions: those that the theorem states. -/
import Derived.Test.YtpoahegccjgnjaaGreatDoorHJi
namespace Go.Proofs.YtpoahegccjgnjaaGreatDoor
open Go.RowKit
set_option linter.unusedVariables false

set_option maxRecDepth 100000 in
set_option maxHeartbeats 1000000 in
theorem m_cat (B : Bd) (g : Nat) (tv rv pv ov kv : Value) (S : Ms) (x : V) (op : Int) (a b c : Nat) (la : a < 6) (lb : b < 6) (lc : c < 6) (w : World) (hM : Mb B w g tv S rv pv ov kv) (h6 : S.rg.length = 6) (hbs : (S.at (b : Int)).s.size ≤ 10) (hcs : (S.at (c : Int)).s.size ≤ 10) :
    Calls Tryz.prog 28 #[.pointer (some ⟨g, 0, none⟩), (⟨op, (a : Int), (b : Int), (c : Int), x⟩ : In).val] w fun e w' => DP B w g tv (if ((S.at (b : Int)).k = 2 ∧ (S.at (c : Int)).k = 2) ∧ (S.at (b : Int)).s.size + (S.at (c : Int)).s.size ≤ 10 then .go (S.set (a : Int) ⟨2, 0, (S.at (b : Int)).s ++ (S.at (c : Int)).s⟩) else .bad) e w' := by
  obtain ⟨r, cap, rfl, hBr, hr, hrg⟩ := at_cells hM h6
  have hgb := World.grownBy_alloc w (.cells #[.int .i64 op, .int .i64 (a : Int), .int .i64 (b : Int), .int .i64 (c : Int), .int .i64 x.k, .int .i64 x.n, .string x.s] 44) none
  have hb : Ib (w.alloc (.cells #[.int .i64 op, .int .i64 (a : Int), .int .i64 (b : Int), .int .i64 (c : Int), .int .i64 x.k, .int .i64 x.n, .string x.s] 44)) w.heap.size ⟨op, (a : Int), (b : Int), (c : Int), x⟩ := Ib.new w ⟨op, (a : Int), (b : Int), (c : Int), x⟩
  have hM1 := hM.keptN hgb
  have la' : (a : Int) < 6 := by omega
  have lb' : (b : Int) < 6 := by omega
  have lc' : (c : Int) < 6 := by omega
  obtain ⟨R, HR⟩ : ∃ R, Hid ((if ((S.at (b : Int)).k = 2 ∧ (S.at (c : Int)).k = 2) ∧ (S.at (b : Int)).s.size + (S.at (c : Int)).s.size ≤ 10 then Rs.go (S.set (a : Int) ⟨2, 0, (S.at (b : Int)).s ++ (S.at (c : Int)).s⟩) else Rs.bad) = R) := ⟨_, rfl⟩
  rw [HR.out]
  have hsz : ¬ (9223372036854775807 < (S.at (b : Int)).s.size + (S.at (c : Int)).s.size) := by omega
  unfold In.val
  dsimp only
  go_enter Tryz.func28, Tryz.ntmps28
  go_upto_region 1 with fail
  have HG1 := hide (kp_n (B := B) hgb)
  generalize w.alloc (.cells #[.int .i64 op, .int .i64 (a : Int), .int .i64 (b : Int), .int .i64 (c : Int), .int .i64 x.k, .int .i64 x.n, .string x.s] 44) = W at *
  have hqg : g < w.heap.size := hM.lt
  generalize hq : w.heap.size = q at *
  have hboth := m_both B g tv (.slice (some ⟨r, 0, none⟩) 6 cap) pv ov kv S x op (a : Int) b c lb lc W hM1 h6 2
  unfold In.val at hboth
  dsimp only at hboth
  obtain ⟨b0, b1, b2, b3, b4, b5, b6⟩ := hb.cs
  dsimp only at b0 b1 b2 b3 b4 b5 b6
  cases hk : ((S.at (b : Int)).k == 2 && (S.at (c : Int)).k == 2) with
  | false =>
    rw [hk] at hboth
    have e := HR.out
    rw [if_neg (by rintro ⟨⟨h1, h2⟩, _⟩; rw [h1, h2] at hk; simp at hk)] at e
    subst e
    clear hk
    go_wp2_with (go_at_call 61; refine hboth.mono ?_; rintro e w2 ⟨rfl, hg2⟩)
    go_ret
    exact DP.bad (HG1.out.then (kp_n hg2))
  | true =>
    rw [hk] at hboth
    rw [Bool.and_eq_true, beq_iff_eq, beq_iff_eq] at hk
    have Hk := hide hk
    clear hk
    have hb' := hb
    go_upto_region 3 with (go_at_call 61; refine hboth.mono ?_; rintro e w2 ⟨rfl, hg2⟩)
    have hM2 := hM1.keptN hg2
    have hb2 := hb'.kept hg2 (by simp)
    have HG2 := hide (HG1.out.then (kp_n (B := B) hg2))
    have hq2 : q < w2.heap.size := hb2.lt
    clear hM1 hM hb hb' b0 b1 b2 b3 b4 b5 b6 hboth
    obtain ⟨b0, b1, b2, b3, b4, b5, b6⟩ := hb2.cs
    dsimp only at b0 b1 b2 b3 b4 b5 b6
    have t2 := hM2.tb.c2
    obtain ⟨ar0, ar1, ar2, rf⟩ := rg_cells hM2 h6 a la
    obtain ⟨br0, br1, br2, rf⟩ := rg_cells hM2 h6 b lb
    obtain ⟨cr0, cr1, cr2, rf⟩ := rg_cells hM2 h6 c lc
    have At2 := fun (o : Obj) => cell_g t2 (World.grownBy_alloc w2 o none)
    have Ab1 := fun (o : Obj) => cell_g b1 (World.grownBy_alloc w2 o none)
    have Ab2 := fun (o : Obj) => cell_g b2 (World.grownBy_alloc w2 o none)
    have Ab3 := fun (o : Obj) => cell_g b3 (World.grownBy_alloc w2 o none)
    have Abr0 := fun (o : Obj) => cell_g br0 (World.grownBy_alloc w2 o none)
    have Abr1 := fun (o : Obj) => cell_g br1 (World.grownBy_alloc w2 o none)
    have Abr2 := fun (o : Obj) => cell_g br2 (World.grownBy_alloc w2 o none)
    have Acr0 := fun (o : Obj) => cell_g cr0 (World.grownBy_alloc w2 o none)
    have Acr1 := fun (o : Obj) => cell_g cr1 (World.grownBy_alloc w2 o none)
    have Acr2 := fun (o : Obj) => cell_g cr2 (World.grownBy_alloc w2 o none)
    go_region
    go_upto_region 4 with fail
    have hga2 := World.grownBy_alloc w2 (.cells #[.int .i64 2, .int .i64 0, .string ((S.at (b : Int)).s ++ (S.at (c : Int)).s)] 31) none
    have hV : Vb (w2.alloc (.cells #[.int .i64 2, .int .i64 0, .string ((S.at (b : Int)).s ++ (S.at (c : Int)).s)] 31)) w2.heap.size ⟨2, 0, (S.at (b : Int)).s ++ (S.at (c : Int)).s⟩ := Vb.new w2 ⟨2, 0, (S.at (b : Int)).s ++ (S.at (c : Int)).s⟩
    have hV3 := hV.kept (grown_dr _) (by simp)
    have hg3 := grown_up hga2 (grown_dr _)
    have hM3 := hM2.keptN hg3
    have hb3 := hb2.kept hg3 (by simp)
    have HG3 := hide (HG2.out.then (kp_n (B := B) hg3))
    have hn : (((S.at (b : Int)).s ++ (S.at (c : Int)).s).size : Int) = ((S.at (b : Int)).s.size : Int) + ((S.at (c : Int)).s.size : Int) := by rw [ByteArray.size_append]; omega
    clear hM2 hb2 b0 b1 b2 b3 b4 b5 b6 t2 ar0 ar1 ar2 br0 br1 br2 cr0 cr1 cr2 rf hga2 hV hg3 hsz
    generalize (w2.alloc (.cells #[.int .i64 2, .int .i64 0, .string ((S.at (b : Int)).s ++ (S.at (c : Int)).s)] 31)).drew = W3 at *
    have hqv : q < w2.heap.size := hq2
    generalize w2.heap.size = p at *
    obtain ⟨Z, HZ⟩ : ∃ Z, Hid ((S.at (b : Int)).s ++ (S.at (c : Int)).s = Z) := ⟨_, rfl⟩
    rw [HZ.out] at hV3 hn
    rw [HZ.out]
    have v0 := hV3.c0
    have v1 := hV3.c1
    have v2 := hV3.c2
    dsimp only at v0 v1 v2
    obtain ⟨b0, b1, b2, b3, b4, b5, b6⟩ := hb3.cs
    dsimp only at b0 b1 b2 b3 b4 b5 b6
    have t2 := hM3.tb.c2
    obtain ⟨ar0, ar1, ar2, rf⟩ := rg_cells hM3 h6 a la
    have hpr : r ≠ p := by have := (hM3.rg.lt r rfl).2; omega
    have hP := set_raw hM3 h6 a la 2 0 Z
    have hV4 := hV3.kept hP.2 (by simp; omega)
    have v2' := hV4.c2
    dsimp only at v2'
    have HM4 := hide hP.1
    have HK4 := hide (HG3.out.then (kp_of hP.2 hBr))
    have hV5 := hV4.kept (grown_dr _) (by simp)
    have HM5 := hide (hP.1.keptN (grown_dr _))
    have HK5 := hide (HK4.out.then (Kp.drew _ _))
    clear hP HM4 HK4 hV4 v2'
    go_region
    generalize World.drew (((W3.setCell ⟨r, a * 3, none⟩ (.int .i64 2)).setCell ⟨r, a * 3 + 1, none⟩ (.int .i64 0)).setCell ⟨r, a * 3 + 2, none⟩ (.string Z)) = W4 at *
    have v5 := hV5.c2
    dsimp only at v5
    clear hV5 hV3
    by_cases hs : (S.at (b : Int)).s.size + (S.at (c : Int)).s.size ≤ 10
    · have hz : (Z.size : Int) ≤ 10 := by omega
      have e := HR.out
      rw [if_pos ⟨Hk.out, hs⟩, HZ.out] at e
      subst e
      clear hs hn
      go_wp2
      go_ret
      exact DP.go HM5.out HK5.out
    · have hz : ¬ (Z.size : Int) ≤ 10 := by omega
      have e := HR.out
      rw [if_neg (fun h => hs h.2)] at e
      subst e
      clear hs hn
      go_wp2
      go_ret
      exact DP.bad HK5.out

end Go.Proofs.YtpoahegccjgnjaaGreatDoor
