/- Contracts, over the turned program: both pieces of work begin. Conditions: those that each theorem states. -/
import Derived.Test.YtmnedhlgplkfhaaGreatSBs
namespace Go.Proofs.YtmnedhlgplkfhaaGreat
open Go.RowKit
set_option linter.unusedVariables false

theorem pgF_zero (n : Nat) : pgF (zeroP n) = fun _ => fillB 0 := by
  funext p
  unfold pgF zeroP
  rw [List.getD_eq_getElem?_getD, List.getElem?_replicate]
  split <;> rfl
/-- A piece of work that has just begun. -/
def Sw.new (Q : List ByteArray) : Sw := ⟨Q, Q, [], false⟩
/-- Whose the blocks are when a piece of the program's work has begun. -/
theorem growB_ex (own : Nat → Nat) (s : Nat) (F V : Nat → Prop) : ∃ f : Nat → Nat, (∀ k, k < s → f k = own k) ∧ (∀ k, s ≤ k → F k → f k = 1) ∧ ∀ k, s ≤ k → ¬ F k → V k → f k = 2 := by
  classical
  refine ⟨fun k => if k < s then own k else if F k then 1 else if V k then 2 else 0, fun k h => if_pos h, fun k h hF => ?_, fun k h hF hV => ?_⟩
  · show (if k < s then own k else if F k then 1 else if V k then 2 else 0) = 1
    rw [if_neg (by omega), if_pos hF]
  · show (if k < s then own k else if F k then 1 else if V k then 2 else 0) = 2
    rw [if_neg (by omega), if_neg hF, if_pos hV]
section
variable {w0 w w' : World} {own0 own : Nat → Nat} {x : Nat} {q : Cq} {B tW tR : Nat} {SW SR : Sw} {QC QP : List ByteArray} {r rr : Nat}
/-- The program's work begins anew. -/
theorem Bx.begin_ (h : Bx w0 own0 w x q B tW tR SW SR QC QP r rr) (ht : tW ≤ 1000) : Calls Tryz.prog 21 #[.pointer (some ⟨q.c, 0, none⟩)] w fun e w' => ∃ r', e = .returned (.tuple #[.pointer (some ⟨r', 0, none⟩), .int .i64 0]) ∧ w'.cell? ⟨x, 1, none⟩ = some (.pointer (some ⟨r, 0, none⟩)) ∧ w'.frozen? ⟨x, 1, none⟩ = false ∧ Bx w0 own0 (w'.setCell ⟨x, 1, none⟩ (.pointer (some ⟨r', 0, none⟩))) x q B (tW + 1) tR (Sw.new QC) SR QC QP r' rr := by
  obtain ⟨own, hB, ho, hk⟩ := h
  obtain ⟨D, M, cm, s, c1, c2, c3, c4, c5⟩ := hB.C
  have hn := hB.n
  refine (sbegin_any c1 QC (by rw [← hn.1]) hn.2.2.1 hn.2.2.2 (fun i hi => ?_) hB.sz.1 (by omega)).mono ?_
  · have hi' : i < QC.length := by rw [← hn.1]; exact hi
    rw [pgF_at QC i hi', List.getD_eq_getElem?_getD, List.getElem?_eq_getElem hi']
    rfl
  rintro e w' ⟨r', rfl, F', V, s', a1, a2, a3⟩
  have hx := hB.xo
  have hxt : ¬ (own x = 1) := by omega
  have hc1 := a2.k.cell hB.x1 hxt
  have hf1 : w'.frozen? ⟨x, 1, none⟩ = false := by rw [a2.k.frozen hB.lt.1 hxt]; exact hB.xf 1
  refine ⟨r', rfl, hc1, hf1, ?_⟩
  have pw := Put.set w' x 1 (.pointer (some ⟨r', 0, none⟩)) _ hc1
  have kA : Kp (fun k => own k = 1 ∨ k = x) w (w'.setCell ⟨x, 1, none⟩ (.pointer (some ⟨r', 0, none⟩))) := (a2.k.mono (fun k _ e => .inl e)).then (pw.kp.mono (fun k _ e => .inr e))
  obtain ⟨f, g1, g2, g3⟩ := growB_ex own w.heap.size F' V
  obtain ⟨f1, f2, f3, f4, f5, f6, f7, f8, f9⟩ := hB.frame (own' := f) kA g1
  have hxlt := hB.lt.1
  have hrr := hB.ro
  have old : ∀ j v, j ≠ 1 → w.cell? ⟨x, j, none⟩ = some v → (w'.setCell ⟨x, 1, none⟩ (.pointer (some ⟨r', 0, none⟩))).cell? ⟨x, j, none⟩ = some v := fun j v hj hc => by
    rw [pw.old _ _ (.inr hj)]
    exact a2.k.cell hc hxt
  obtain ⟨rp, p1, p2⟩ := hB.P
  have hb := a2.b
  refine Bx.next (own' := f) ho hk ⟨old 0 _ (by omega) hB.x0, pw.same, old 3 _ (by omega) hB.x3, ⟨rp, old 2 _ (by omega) p1, ?_⟩, fun j => by rw [pw.fr, a2.k.frozen hxlt hxt]; exact hB.xf j, f6, ⟨D, M, cm, s', ?_, by omega, by omega, c4, by omega⟩, ⟨0, Nat.zero_le _, ?_⟩, f5 (fun k _ e e2 => ?_), f7, f8, f9, hB.n, hB.sz, fun _ => rfl, hB.nb, hB.nt⟩ g1 (kA.mono (fun k _ e => ?_))
  · refine (p2.mono (T := fun k => f k = 4) (fun k hk' e => by rw [g1 k hk']; exact e)).keptL kA (fun k hk' e e2 => ?_)
    rw [g1 k hk'] at e
    rcases e2 with e2 | e2
    · omega
    · rw [e2] at e; omega
  · refine Cas.kept (Cas.mono a2.c (G := fun k => f k = 1) (fun k hk' e => ?_)) pw.kp (fun k _ e e2 => ?_)
    · by_cases hlt : k < w.heap.size
      · rw [g1 k hlt]
        rcases a2.f k e with e | e
        · exact e
        · omega
      · exact g2 k (by omega) e
    · have e' : k = x := e2
      rw [e', f6] at e
      omega
  · refine (a1.mono (V' := fun k => f k = 2) (fun k hk' e => g3 k (a3 k e).1 (a3 k e).2 e) (Nat.le_refl _)).kept pw.kp (fun k _ e e2 => ?_)
    have e' : k = x := e2
    rw [e', f6] at e
    omega
  · rcases e2 with e2 | e2
    · omega
    · rw [e2] at e; omega
  · rcases e with e | e
    · omega
    · rw [e]; omega
/-- The document's begins anew. -/
theorem Bx.rbegin_ (h : Bx w0 own0 w x q B tW tR SW SR QC QP r rr) (rp : Nat) (hrp : w.cell? ⟨x, 2, none⟩ = some (.pointer (some ⟨rp, 0, none⟩))) : Calls Tryz.prog 22 #[.pointer (some ⟨rp, 0, none⟩)] w fun e w' => ∃ rr', e = .returned (.pointer (some ⟨rr', 0, none⟩)) ∧ w'.cell? ⟨x, 3, none⟩ = some (.pointer (some ⟨rr, 0, none⟩)) ∧ w'.frozen? ⟨x, 3, none⟩ = false ∧ Bx w0 own0 (w'.setCell ⟨x, 3, none⟩ (.pointer (some ⟨rr', 0, none⟩))) x q B tW tR SW (Sw.new QP) QC QP r rr' := by
  obtain ⟨own, hB, ho, hk⟩ := h
  obtain ⟨rp2, p1, p2⟩ := hB.P
  rw [hrp] at p1
  obtain rfl : rp = rp2 := by
    injection p1 with p1
    injection p1 with p1
    injection p1 with p1
    injection p1
  have hn := hB.n
  refine (rbegin_any rp _ QP w p2 (by omega) (by omega) hB.sz.2).mono ?_
  rintro e w' ⟨rr', gN, rfl, a1, a2, a3⟩
  have hx := hB.xo
  have hc1 := a3.cell hB.x3 (fun h => h)
  have hf1 : w'.frozen? ⟨x, 3, none⟩ = false := by rw [a3.frozen hB.lt.1 (fun h => h)]; exact hB.xf 3
  refine ⟨rr', rfl, hc1, hf1, ?_⟩
  have pw := Put.set w' x 3 (.pointer (some ⟨rr', 0, none⟩)) _ hc1
  have kA : Kp (only x) w (w'.setCell ⟨x, 3, none⟩ (.pointer (some ⟨rr', 0, none⟩))) := a3.nThen pw.kp
  obtain ⟨f1, f2, f3, f4, f5, f6, f7, f8, f9⟩ := hB.frame (own' := grow own w.heap.size 3) kA (fun k hk => grow_old hk)
  have hxlt := hB.lt.1
  have old : ∀ j v, j ≠ 3 → w.cell? ⟨x, j, none⟩ = some v → (w'.setCell ⟨x, 3, none⟩ (.pointer (some ⟨rr', 0, none⟩))).cell? ⟨x, j, none⟩ = some v := fun j v hj hc => by
    rw [pw.old _ _ (.inr hj)]
    exact a3.cell hc (fun h => h)
  refine Bx.next (own' := grow own w.heap.size 3) ho hk ⟨old 0 _ (by omega) hB.x0, old 1 _ (by omega) hB.x1, pw.same, ⟨rp, old 2 _ (by omega) hrp, ?_⟩, fun j => by rw [pw.fr, a3.frozen hxlt (fun h => h)]; exact hB.xf j, f6, f3 (fun k _ e e2 => ?_), f4 (fun k _ e e2 => ?_), ⟨gN, ?_⟩, grow_new a2, f8, f9, hB.n, hB.sz, hB.ba, by show QP.length = q.n; omega, Nat.zero_le _⟩ (fun k hk => grow_old hk) (kA.mono (fun k _ e => ?_))
  · refine (p2.mono (T := fun k => (grow own w.heap.size 3) k = 4) (fun k hk' e => by rw [grow_old hk']; exact e)).keptL kA (fun k hk' e e2 => ?_)
    have e' : k = x := e2
    rw [e', f6] at e
    omega
  · have e' : k = x := e2
    rw [e'] at e
    omega
  · have e' : k = x := e2
    rw [e'] at e
    omega
  · refine (a1.mono (G' := fun k => (grow own w.heap.size 3) k = 3) (fun k _ e => grow_new e)).kept pw.kp (fun e => ?_) (fun k _ e e2 => ?_)
    · have e' : rr' = x := e
      omega
    · have e' : k = x := e2
      rw [e', f6] at e
      omega
  · have e' : k = x := e
    rw [e']
    omega
end
/-- Whose the blocks are at first. -/
theorem own1_ex (s0 s1 s2 s3 s4 : Nat) (F V : Nat → Prop) (h1 : s0 ≤ s1) (h2 : s1 ≤ s2) (h3 : s3 = s2 + 1) (h4 : s3 ≤ s4) : ∃ f : Nat → Nat, (∀ k, k < s0 → f k = 0) ∧ (∀ k, s0 ≤ k → k < s1 → f k = 1) ∧ (∀ k, s1 ≤ k → k < s2 → f k = 4) ∧ f s2 = 5 ∧ (∀ k, s3 ≤ k → k < s4 → F k → f k = 1) ∧ (∀ k, s3 ≤ k → k < s4 → ¬ F k → V k → f k = 2) ∧ ∀ k, s4 ≤ k → f k = 3 := by
  classical
  obtain ⟨f, hf⟩ : ∃ f : Nat → Nat, ∀ k, f k = if k < s0 then 0 else if k < s1 then 1 else if k < s2 then 4 else if k = s2 then 5 else if k < s4 then (if F k then 1 else if V k then 2 else 0) else 3 := ⟨_, fun _ => rfl⟩
  refine ⟨f, fun k h => ?_, fun k h h' => ?_, fun k h h' => ?_, ?_, fun k h h' hF => ?_, fun k h h' hF hV => ?_, fun k h => ?_⟩ <;> rw [hf]
  · rw [if_pos h]
  · rw [if_neg (by omega), if_pos h']
  · rw [if_neg (by omega), if_neg (by omega), if_pos h']
  · rw [if_neg (by omega), if_neg (by omega), if_neg (by omega), if_pos rfl]
  · rw [if_neg (by omega), if_neg (by omega), if_neg (by omega), if_neg (by omega), if_pos h', if_pos hF]
  · rw [if_neg (by omega), if_neg (by omega), if_neg (by omega), if_neg (by omega), if_pos h', if_neg hF, if_pos hV]
  · rw [if_neg (by omega), if_neg (by omega), if_neg (by omega), if_neg (by omega), if_neg (by omega)]
set_option maxRecDepth 100000 in
set_option maxHeartbeats 1600000 in
theorem bbegin_any (n : Nat) (w : World) (h1 : 1 ≤ n) (h2 : n ≤ 160) : Calls Tryz.prog 8 #[.int .i64 (n : Int)] w fun e w' => ∃ x own q r rr, e = .returned (.tuple #[.pointer (some ⟨x, 0, none⟩), .bool true]) ∧ Bp w' own x q w.heap.size 1 0 (Sw.new (zeroP n)) (Sw.new (zeroP n)) (zeroP n) (zeroP n) r rr ∧ q.n = n ∧ Kp none' w w' := by
  have HFR := hide (sfresh_any n w h1 h2)
  have HNW : Hid (∀ w1 : World, Calls Tryz.prog 33 #[.int .i64 (n : Int)] w1 fun e w' => ∃ r, e = .returned (.pointer (some ⟨r, 0, none⟩)) ∧ Pgl (fun k => w1.heap.size ≤ k) w' r (zeroP n) ∧ Kp none' w1 w') := fun w1 => prnew_any n w1 (by omega)
  have HBG : Hid (∀ (w1 w3 : World) (q : Cq) (D : Dv), q.n = n → Kp none' w1 w3 → Cas w1 q (fun k => w.heap.size ≤ k) D (fun _ => fillB 0) 0 0 [] 0 0 → Calls Tryz.prog 21 #[.pointer (some ⟨q.c, 0, none⟩)] w3 fun e w' => ∃ r, e = .returned (.tuple #[.pointer (some ⟨r, 0, none⟩), .int .i64 0]) ∧ ∃ (F' V : Nat → Prop) (s' : St), Wk w' r V q.c 0 (Sw.new (zeroP n)) ∧ Cz w3 w' q (fun k => w.heap.size ≤ k ∧ k < w1.heap.size) F' D (pgF (zeroP n)) 0 0 ⟨[], 0, 0⟩ 160 s' ∧ (∀ k, V k → w3.heap.size ≤ k ∧ ¬ F' k)) := fun w1 w3 q D hq hk hC => by
    have hC' : Cst w3 q (fun k => w.heap.size ≤ k ∧ k < w1.heap.size) D (pgF (zeroP n)) 0 0 ⟨[], 0, 0⟩ := by
      rw [pgF_zero]
      exact Cas.keptN (Cas.mono hC (fun k h1 h2 => ⟨h2, h1⟩)) hk
    refine (sbegin_any hC' (zeroP n) (by rw [zeroP_len, hq]) (by omega) (by omega) (fun i hi => by rw [zeroP_at n i (by omega), pgF_zero]) (zeroP_sz n) (by show 0 + 0 ≤ _; omega)).mono ?_
    rintro e w' ⟨r, rfl, F', V, s', a1, a2, a3⟩
    exact ⟨r, rfl, F', V, s', a1, a2, a3⟩
  have HRB : Hid (∀ (w5 : World) (rp : Nat) (G : Nat → Prop), Pgl G w5 rp (zeroP n) → Calls Tryz.prog 22 #[.pointer (some ⟨rp, 0, none⟩)] w5 fun e w' => ∃ rr gN, e = .returned (.pointer (some ⟨rr, 0, none⟩)) ∧ Rw w' rr gN (fun k => w5.heap.size ≤ k) (Sw.new (zeroP n)) ∧ w5.heap.size ≤ rr ∧ Kp none' w5 w') := fun w5 rp G hP => rbegin_any rp G (zeroP n) w5 hP (by rw [zeroP_len]; omega) (by rw [zeroP_len]; omega) (zeroP_sz n)
  go_enter Tryz.func8, Tryz.ntmps8
  go_upto_region 2 with (first
    | (go_at_call 32; refine HFR.out.mono ?_; rintro e w1 ⟨q, D, rfl, hq1, hq2, hst, hC1, hk1⟩)
    | (go_at_call 33; refine (HNW.out w1).mono ?_; rintro e w2 ⟨rp, rfl, hP2, hk2⟩)
    | fail)
  have cell := new_cell w2 #[.pointer (some ⟨q.c, 0, none⟩), .pointer none, .pointer (some ⟨rp, 0, none⟩), .pointer none] 37
  have frz := new_frozen w2 #[.pointer (some ⟨q.c, 0, none⟩), .pointer none, .pointer (some ⟨rp, 0, none⟩), .pointer none] 37
  have k3 := Kp.alloc none' w2 (.cells #[.pointer (some ⟨q.c, 0, none⟩), .pointer none, .pointer (some ⟨rp, 0, none⟩), .pointer none] 37)
  have s3 : (w2.alloc (.cells #[.pointer (some ⟨q.c, 0, none⟩), .pointer none, .pointer (some ⟨rp, 0, none⟩), .pointer none] 37)).heap.size = w2.heap.size + 1 := by simp
  have a0 := cell 0 _ rfl
  have a1 := cell 1 _ rfl
  have a2 := cell 2 _ rfl
  have a3 := cell 3 _ rfl
  obtain ⟨w3, HW3⟩ : ∃ w3, Hid (w2.alloc (.cells #[.pointer (some ⟨q.c, 0, none⟩), .pointer none, .pointer (some ⟨rp, 0, none⟩), .pointer none] 37) = w3) := ⟨_, rfl⟩
  rw [HW3.out] at frz k3 s3 a0 a1 a2 a3 ⊢
  obtain ⟨x, HX⟩ : ∃ x, Hid (w2.heap.size = x) := ⟨_, rfl⟩
  rw [HX.out] at frz s3 a0 a1 a2 a3 ⊢
  have hbg := hide (HBG.out w1 w3 q D hq1 (hk2.then k3) hC1)
  have HFZ := hide frz
  clear cell frz
  go_upto_region 3 with (first
    | (go_at_call 21; refine hbg.out.mono ?_; rintro e w4 ⟨r, rfl, F', V, s', hW4, hZ4, hV4⟩)
    | fail)
  have hs1 := hk1.size
  have hs2 := hk2.size
  have hs4 := hZ4.k.size
  have hX := HX.out
  have nx : ¬ (w.heap.size ≤ x ∧ x < w1.heap.size) := by omega
  have b0 := hZ4.k.cell a0 nx
  have b1 := hZ4.k.cell a1 nx
  have b2 := hZ4.k.cell a2 nx
  have b3 := hZ4.k.cell a3 nx
  have bf : ∀ j, w4.frozen? ⟨x, j, none⟩ = false := fun j => by rw [hZ4.k.frozen (lt_of_cell a0) nx]; exact HFZ.out j
  have bf1 := bf 1
  have p5 := Put.set w4 x 1 (.pointer (some ⟨r, 0, none⟩)) _ b1
  obtain ⟨w5, HW5⟩ : ∃ w5, Hid (w4.setCell ⟨x, 1, none⟩ (.pointer (some ⟨r, 0, none⟩)) = w5) := ⟨_, rfl⟩
  rw [HW5.out] at p5
  have hP5 : Pgl (fun k => w1.heap.size ≤ k ∧ k < w2.heap.size) w5 rp (zeroP n) := by
    have e1 := ((hP2.mono (T := fun k => w1.heap.size ≤ k ∧ k < w2.heap.size) (fun k h1 h2 => ⟨h2, h1⟩)).keptN k3).keptL hZ4.k (fun k _ e e2 => by omega)
    exact e1.kept p5.kp (fun k e e2 => by have e' : k = x := e2; omega)
  have c2 : w5.cell? ⟨x, 2, none⟩ = some (.pointer (some ⟨rp, 0, none⟩)) := by rw [p5.old _ _ (.inr (by omega))]; exact b2
  have c3 : w5.cell? ⟨x, 3, none⟩ = some (.pointer none) := by rw [p5.old _ _ (.inr (by omega))]; exact b3
  have hs5 : w5.heap.size = w4.heap.size := p5.sz
  have hrb := hide (HRB.out w5 rp _ hP5)
  have HP5 := hide p5
  have HZ4 := hide hZ4
  have HV4 := hide hV4
  have HPP5 := hide hP5
  clear p5 hP5 hZ4 hV4
  go_upto_region 4 with fail
  rw [HW5.out]
  go_upto_region 5 with (first
    | (go_at_call 22; refine hrb.out.mono ?_; rintro e w6 ⟨rr, gN, rfl, hR6, hrr6, hk6⟩; have d3 := hk6.cell c3 (fun h => h); have df : w6.frozen? ⟨x, 3, none⟩ = false := (by rw [hk6.frozen (lt_of_cell c3) (fun h => h), HP5.out.fr]; exact bf 3))
    | fail)
  have p7 := Put.set w6 x 3 (.pointer (some ⟨rr, 0, none⟩)) _ d3
  have hs6 := hk6.size
  have hxl5 : x < w5.heap.size := lt_of_cell c3
  have HFIN : Hid (∃ ow, Bp (w6.setCell ⟨x, 3, none⟩ (.pointer (some ⟨rr, 0, none⟩))) ow x q w.heap.size 1 0 (Sw.new (zeroP n)) (Sw.new (zeroP n)) (zeroP n) (zeroP n) r rr ∧ Kp none' w (w6.setCell ⟨x, 3, none⟩ (.pointer (some ⟨rr, 0, none⟩)))) := by
    obtain ⟨ow, o0, o1, o4, o5, oF, oV, o3⟩ := own1_ex w.heap.size w1.heap.size w2.heap.size w3.heap.size w4.heap.size F' V hs1 hs2 (by rw [hX]; exact s3) hs4
    rw [hX] at o5
    refine ⟨ow, ?_⟩
    have hp5 := HP5.out
    have hZ := HZ4.out
    have k47 : Kp (only x) w4 (w6.setCell ⟨x, 3, none⟩ (.pointer (some ⟨rr, 0, none⟩))) := (hp5.kp.thenN hk6).then p7.kp
    have kAll : Kp none' w (w6.setCell ⟨x, 3, none⟩ (.pointer (some ⟨rr, 0, none⟩))) := ((((hk1.then hk2).then k3).trans hZ.k (S'' := none') (fun _ _ h => h) (fun k hk h => absurd h.1 (by omega)))).trans k47 (fun _ _ h => h) (fun k hk e => by have e' : k = x := e; omega)
    have cc : ∀ j v, j ≠ 1 → j ≠ 3 → w4.cell? ⟨x, j, none⟩ = some v → (w6.setCell ⟨x, 3, none⟩ (.pointer (some ⟨rr, 0, none⟩))).cell? ⟨x, j, none⟩ = some v := fun j v h1 h3 hc => by
      rw [p7.old _ _ (.inr h3)]
      exact hk6.cell (by rw [hp5.old _ _ (.inr h1)]; exact hc) (fun h => h)
    have hzb : s'.h + s'.m ≤ 0 + 0 + 160 := hZ.b
    refine ⟨⟨cc 0 _ (by omega) (by omega) b0, by rw [p7.old _ _ (.inr (by omega))]; exact hk6.cell hp5.same (fun h => h), p7.same, ⟨rp, cc 2 _ (by omega) (by omega) b2, ?_⟩, fun j => by rw [p7.fr, hk6.frozen hxl5 (fun h => h), hp5.fr]; exact bf j, o5, ⟨D, 0, 0, s', ?_, by omega, by omega, by omega, by omega⟩, ⟨0, Nat.zero_le _, ?_⟩, ⟨gN, ?_⟩, o3 rr (by omega), o0, kAll.size, ⟨by rw [zeroP_len]; exact hq1, by rw [zeroP_len]; exact hq1, by omega, by omega⟩, ⟨zeroP_sz n, zeroP_sz n⟩, fun _ => rfl, by show (zeroP n).length = _; rw [zeroP_len]; exact hq1.symm, Nat.zero_le _⟩, kAll⟩
    · have e1 : Pgl (fun k => ow k = 4) w5 rp (zeroP n) := HPP5.out.mono (fun k _ h => o4 k h.1 h.2)
      exact (e1.keptN hk6).kept p7.kp (fun k e e2 => by have e' : k = x := e2; rw [e', o5] at e; omega)
    · refine Cas.kept (Cas.mono hZ.c (G := fun k => ow k = 1) (fun k hk' e => ?_)) k47 (fun k _ e e2 => by have e' : k = x := e2; rw [e', o5] at e; omega)
      rcases hZ.f k e with h | h
      · exact o1 k h.1 h.2
      · exact oF k h hk' e
    · exact (hW4.mono (V' := fun k => ow k = 2) (fun k hk' e => oV k (HV4.out k e).1 hk' (HV4.out k e).2 e) (Nat.le_refl _)).kept k47 (fun k _ e e2 => by have e' : k = x := e2; rw [e', o5] at e; omega)
    · exact (hR6.mono (G' := fun k => ow k = 3) (fun k _ e => o3 k (by omega))).kept p7.kp (fun e => by have e' : rr = x := e; omega) (fun k _ e e2 => by have e' : k = x := e2; rw [e', o5] at e; omega)
  clear p7 hW4 HZ4 HV4 HP5 HPP5 hR6
  go_wp2
  go_ret2
  obtain ⟨ow, g1, g2⟩ := HFIN.out
  exact ⟨x, ow, q, r, rr, rfl, g1, hq1, g2⟩

end Go.Proofs.YtmnedhlgplkfhaaGreat
