/- The walk of the law NodeSplits. Conditions: those that the theorem states. -/
import Derived.Test.YtjmkfkmdafjgnaaNLv
import Derived.Test.YtjmkfkmdafjgnaaNRefE
import Derived.Test.YtjmkfkmdafjgnaaNPs
import Derived.Test.YtjmkfkmdafjgnaaNRefN
import Derived.Test.YtjmkfkmdafjgnaaNRefK
namespace Go.Proofs.Ytjmkfkmdafjgnaa.nodeSplits
open Go.RowKit
set_option linter.unusedVariables false

set_option maxRecDepth 100000 in
set_option maxHeartbeats 2000000 in
theorem walk (x y : Value) (n m : Nd) (key : ByteArray) (w : World) (hN : Nv w.heap.size w x n) (hM : Nv w.heap.size w y m) (hkm : key.size ≤ maxLen) (hp : n.ps.length ≤ 1048576) (hk : n.ks.length ≤ 1048576) (hd : n.kd.length ≤ 1048576) (hsz : n.size ≤ 4194304) (hp' : m.ps.length ≤ 1048576) (hk' : m.ks.length ≤ 1048576) (hd' : m.kd.length ≤ 1048576) : Calls Try.prog 6 #[x, y, .string key] w fun e w' => e = .returned (.bool true) ∧ w.grownBy w' none := by
  obtain ⟨a1, c1, a2, c2, a3, c3, rfl⟩ := nv_open hN
  obtain ⟨a1', c1', a2', c2', a3', c3', rfl⟩ := nv_open hM
  obtain ⟨key0, HKY⟩ : ∃ q, Hid (n.mid = q) := ⟨_, rfl⟩
  have HSp : Hid (∀ W : World, Kp none' w W → Calls Try.prog 22 #[.agg #[.bool n.leaf, .slice a1 n.ps.length c1, .slice a2 n.ks.length c2, .slice a3 n.kd.length c3]] W fun e w' => ∃ l1 b1 m1 o1 b2 m2 o2 b3 m3 o3 l4 b4 m4 o4 b5 m5 o5 b6 m6 o6, e = .returned (.tuple #[.agg #[.bool l1, .slice b1 m1 o1, .slice b2 m2 o2, .slice b3 m3 o3], .agg #[.bool l4, .slice b4 m4 o4, .slice b5 m5 o5, .slice b6 m6 o6], .string key0]) ∧ Nv w'.heap.size w' (.agg #[.bool l1, .slice b1 m1 o1, .slice b2 m2 o2, .slice b3 m3 o3]) n.fst ∧ Nv w'.heap.size w' (.agg #[.bool l4, .slice b4 m4 o4, .slice b5 m5 o5, .slice b6 m6 o6]) n.snd ∧ Kp none' W w') := by
    intro W hk'
    rw [← HKY.out]
    refine (split_any _ n _ W (hN.keptN hk') hk'.size hp hk hd hsz).mono ?_
    rintro e w' ⟨y, z, rfl, hY, hZ, hK⟩
    obtain ⟨b1, d1, b2, d2, b3, d3, rfl⟩ := nv_open hY
    obtain ⟨b4, d4, b5, d5, b6, d6, rfl⟩ := nv_open hZ
    exact ⟨_, _, _, _, _, _, _, _, _, _, _, _, _, _, _, _, _, _, _, _, rfl, hY, hZ, hK⟩
  have HSr : Hid (∀ W : World, Kp none' w W → Calls Try.prog 23 #[.agg #[.bool n.leaf, .slice a1 n.ps.length c1, .slice a2 n.ks.length c2, .slice a3 n.kd.length c3]] W fun e w' => ∃ l1 b1 m1 o1 b2 m2 o2 b3 m3 o3 l4 b4 m4 o4 b5 m5 o5 b6 m6 o6, e = .returned (.tuple #[.agg #[.bool l1, .slice b1 m1 o1, .slice b2 m2 o2, .slice b3 m3 o3], .agg #[.bool l4, .slice b4 m4 o4, .slice b5 m5 o5, .slice b6 m6 o6], .string key0]) ∧ Nv w'.heap.size w' (.agg #[.bool l1, .slice b1 m1 o1, .slice b2 m2 o2, .slice b3 m3 o3]) n.fst ∧ Nv w'.heap.size w' (.agg #[.bool l4, .slice b4 m4 o4, .slice b5 m5 o5, .slice b6 m6 o6]) n.snd ∧ Kp none' W w') := by
    intro W hk'
    rw [← HKY.out]
    refine (rsplit9_any _ n _ W (hN.keptN hk') hk'.size hp hk hd hsz).mono ?_
    rintro e w' ⟨y, z, rfl, hY, hZ, hK⟩
    replace hY := hY.more (Nat.le_trans hk'.size hK.size)
    replace hZ := hZ.more (Nat.le_trans hk'.size hK.size)
    obtain ⟨b1, d1, b2, d2, b3, d3, rfl⟩ := nv_open hY
    obtain ⟨b4, d4, b5, d5, b6, d6, rfl⟩ := nv_open hZ
    exact ⟨_, _, _, _, _, _, _, _, _, _, _, _, _, _, _, _, _, _, _, _, rfl, hY, hZ, hK⟩
  have HJo : Hid (∀ W : World, Kp none' w W → Calls Try.prog 24 #[.agg #[.bool n.leaf, .slice a1 n.ps.length c1, .slice a2 n.ks.length c2, .slice a3 n.kd.length c3], .agg #[.bool m.leaf, .slice a1' m.ps.length c1', .slice a2' m.ks.length c2', .slice a3' m.kd.length c3'], .string key] W fun e w' => ∃ y, e = .returned y ∧ Nv w'.heap.size w' y (n.join m key) ∧ Kp none' W w') := fun W hkk => join_any _ _ n m _ key W (hN.keptN hkk) (hM.keptN hkk) hkk.size hkm hp hp' hk hk' (by omega) (by omega)
  have HJr : Hid (∀ W : World, Kp none' w W → Calls Try.prog 25 #[.agg #[.bool n.leaf, .slice a1 n.ps.length c1, .slice a2 n.ks.length c2, .slice a3 n.kd.length c3], .agg #[.bool m.leaf, .slice a1' m.ps.length c1', .slice a2' m.ks.length c2', .slice a3' m.kd.length c3'], .string key] W fun e w' => ∃ y, e = .returned y ∧ Nv w'.heap.size w' y (n.join m key) ∧ Kp none' W w') := fun W hkk => rjoin9_any _ _ n m _ key W (hN.keptN hkk) (hM.keptN hkk) hkk.size hkm hp hp' hk hk' (by omega) (by omega)
  clear hN hM hp hk hd hsz hp' hk' hd' hkm
  obtain ⟨lp, Hlp⟩ : ∃ l, Hid (n.ps.length = l) := ⟨_, rfl⟩
  obtain ⟨lk, Hlk⟩ : ∃ l, Hid (n.ks.length = l) := ⟨_, rfl⟩
  obtain ⟨ld, Hld⟩ : ∃ l, Hid (n.kd.length = l) := ⟨_, rfl⟩
  obtain ⟨lf, Hlf⟩ : ∃ l, Hid (n.leaf = l) := ⟨_, rfl⟩
  obtain ⟨lp', Hlp'⟩ : ∃ l, Hid (m.ps.length = l) := ⟨_, rfl⟩
  obtain ⟨lk', Hlk'⟩ : ∃ l, Hid (m.ks.length = l) := ⟨_, rfl⟩
  obtain ⟨ld', Hld'⟩ : ∃ l, Hid (m.kd.length = l) := ⟨_, rfl⟩
  obtain ⟨lf', Hlf'⟩ : ∃ l, Hid (m.leaf = l) := ⟨_, rfl⟩
  rw [Hlp.out, Hlk.out, Hld.out, Hlf.out] at HSp HSr
  rw [Hlp.out, Hlk.out, Hld.out, Hlf.out, Hlp'.out, Hlk'.out, Hld'.out, Hlf'.out] at HJo HJr ⊢
  have n3 := (Nb.new w lf (.slice a1 lp c1) (.slice a2 lk c2) (.slice a3 ld c3)).kept (Kp.alloc none' _ (Obj.cells #[.bool lf', .slice a1' lp' c1', .slice a2' lk' c2', .slice a3' ld' c3'] 26)) (fun h => h)
  have n4 := Nb.new (w.alloc (Obj.cells #[.bool lf, .slice a1 lp c1, .slice a2 lk c2, .slice a3 ld c3] 26)) lf' (.slice a1' lp' c1') (.slice a2' lk' c2') (.slice a3' ld' c3')
  rw [show (w.alloc (Obj.cells #[.bool lf, .slice a1 lp c1, .slice a2 lk c2, .slice a3 ld c3] 26)).heap.size = w.heap.size + 1 by simp] at n4
  have hK0 : Kp none' w ((w.alloc (Obj.cells #[.bool lf, .slice a1 lp c1, .slice a2 lk c2, .slice a3 ld c3] 26)).alloc (Obj.cells #[.bool lf', .slice a1' lp' c1', .slice a2' lk' c2', .slice a3' ld' c3'] 26)) := (Kp.alloc _ _ _).thenN (Kp.alloc _ _ _)
  go_enter Try.func6, Try.ntmps6
  go_upto_region 1 with fail
  generalize (w.alloc (Obj.cells #[.bool lf, .slice a1 lp c1, .slice a2 lk c2, .slice a3 ld c3] 26)).alloc (Obj.cells #[.bool lf', .slice a1' lp' c1', .slice a2' lk' c2', .slice a3' ld' c3'] 26) = w0 at *
  go_upto_region 3 with (first
    | (go_at_call 7; refine (lives9_any _).mono ?_; rintro e w1 ⟨rfl, hk1⟩)
    | fail)
  have S1 := hK0.thenN hk1
  replace n3 := n3.kept hk1 (fun h => h)
  replace n4 := n4.kept hk1 (fun h => h)
  have e0 := n3.c0
  have e1 := n3.c1
  have e2 := n3.c2
  have e3 := n3.c3
  go_upto_region 4 with (first
    | (go_at_call 22; refine (HSp.out _ S1).mono ?_; rintro e w3 ⟨l1, b1, m1, o1, b2, m2, o2, b3, m3, o3, l4, b4, m4, o4, b5, m5, o5, b6, m6, o6, rfl, hY, hZ, hk3⟩)
    | fail)
  have g7 := (Nb.new w3 l1 (.slice b1 m1 o1) (.slice b2 m2 o2) (.slice b3 m3 o3)).kept (Kp.alloc none' _ (Obj.cells #[.bool l4, .slice b4 m4 o4, .slice b5 m5 o5, .slice b6 m6 o6] 26)) (fun h => h)
  have g8 := Nb.new (w3.alloc (Obj.cells #[.bool l1, .slice b1 m1 o1, .slice b2 m2 o2, .slice b3 m3 o3] 26)) l4 (.slice b4 m4 o4) (.slice b5 m5 o5) (.slice b6 m6 o6)
  rw [show (w3.alloc (Obj.cells #[.bool l1, .slice b1 m1 o1, .slice b2 m2 o2, .slice b3 m3 o3] 26)).heap.size = w3.heap.size + 1 by simp] at g8
  have hkA : Kp none' w3 ((w3.alloc (Obj.cells #[.bool l1, .slice b1 m1 o1, .slice b2 m2 o2, .slice b3 m3 o3] 26)).alloc (Obj.cells #[.bool l4, .slice b4 m4 o4, .slice b5 m5 o5, .slice b6 m6 o6] 26)) := (Kp.alloc _ _ _).thenN (Kp.alloc _ _ _)
  clear e0 e1 e2 e3
  generalize hW : (w3.alloc (Obj.cells #[.bool l1, .slice b1 m1 o1, .slice b2 m2 o2, .slice b3 m3 o3] 26)).alloc (Obj.cells #[.bool l4, .slice b4 m4 o4, .slice b5 m5 o5, .slice b6 m6 o6] 26) = wb at *
  replace n3 := n3.kept (hk3.thenN hkA) (fun h => h)
  replace n4 := n4.kept (hk3.thenN hkA) (fun h => h)
  have S2 := S1.thenN (hk3.thenN hkA)
  have hA := hY.keptN hkA
  have hB := hZ.keptN hkA
  clear hY hZ hW
  have e0 := n3.c0
  have e1 := n3.c1
  have e2 := n3.c2
  have e3 := n3.c3
  go_upto_region 5 with (first
    | (go_at_call 23; refine (HSr.out _ S2).mono ?_; rintro e w5 ⟨r1, s1, t1, u1, s2, t2, u2, s3, t3, u3, r4, s4, t4, u4, s5, t5, u5, s6, t6, u6, rfl, hY, hZ, hk5⟩)
    | fail)
  have g10 := (Nb.new w5 r1 (.slice s1 t1 u1) (.slice s2 t2 u2) (.slice s3 t3 u3)).kept (Kp.alloc none' _ (Obj.cells #[.bool r4, .slice s4 t4 u4, .slice s5 t5 u5, .slice s6 t6 u6] 26)) (fun h => h)
  have g11 := Nb.new (w5.alloc (Obj.cells #[.bool r1, .slice s1 t1 u1, .slice s2 t2 u2, .slice s3 t3 u3] 26)) r4 (.slice s4 t4 u4) (.slice s5 t5 u5) (.slice s6 t6 u6)
  rw [show (w5.alloc (Obj.cells #[.bool r1, .slice s1 t1 u1, .slice s2 t2 u2, .slice s3 t3 u3] 26)).heap.size = w5.heap.size + 1 by simp] at g11
  have hkB : Kp none' w5 ((w5.alloc (Obj.cells #[.bool r1, .slice s1 t1 u1, .slice s2 t2 u2, .slice s3 t3 u3] 26)).alloc (Obj.cells #[.bool r4, .slice s4 t4 u4, .slice s5 t5 u5, .slice s6 t6 u6] 26)) := (Kp.alloc _ _ _).thenN (Kp.alloc _ _ _)
  clear e0 e1 e2 e3
  generalize hW : (w5.alloc (Obj.cells #[.bool r1, .slice s1 t1 u1, .slice s2 t2 u2, .slice s3 t3 u3] 26)).alloc (Obj.cells #[.bool r4, .slice s4 t4 u4, .slice s5 t5 u5, .slice s6 t6 u6] 26) = wc at *
  replace n3 := n3.kept (hk5.thenN hkB) (fun h => h)
  replace n4 := n4.kept (hk5.thenN hkB) (fun h => h)
  replace g7 := g7.kept (hk5.thenN hkB) (fun h => h)
  replace g8 := g8.kept (hk5.thenN hkB) (fun h => h)
  have SW := S2.thenN (hk5.thenN hkB)
  replace hA := hA.keptN (hk5.thenN hkB)
  replace hB := hB.keptN (hk5.thenN hkB)
  have hC := hY.keptN hkB
  have hD := hZ.keptN hkB
  clear hY hZ hW
  have f0 : ∀ W : World, Kp none' wc W → W.cell? ⟨w.heap.size, 0, none⟩ = some (.bool lf) := fun W hk => (n3.kept hk (fun h => h)).c0
  have f1 : ∀ W : World, Kp none' wc W → W.cell? ⟨w.heap.size, 1, none⟩ = some (.slice a1 lp c1) := fun W hk => (n3.kept hk (fun h => h)).c1
  have f2 : ∀ W : World, Kp none' wc W → W.cell? ⟨w.heap.size, 2, none⟩ = some (.slice a2 lk c2) := fun W hk => (n3.kept hk (fun h => h)).c2
  have f3 : ∀ W : World, Kp none' wc W → W.cell? ⟨w.heap.size, 3, none⟩ = some (.slice a3 ld c3) := fun W hk => (n3.kept hk (fun h => h)).c3
  have h0 : ∀ W : World, Kp none' wc W → W.cell? ⟨w.heap.size + 1, 0, none⟩ = some (.bool lf') := fun W hk => (n4.kept hk (fun h => h)).c0
  have h1 : ∀ W : World, Kp none' wc W → W.cell? ⟨w.heap.size + 1, 1, none⟩ = some (.slice a1' lp' c1') := fun W hk => (n4.kept hk (fun h => h)).c1
  have h2 : ∀ W : World, Kp none' wc W → W.cell? ⟨w.heap.size + 1, 2, none⟩ = some (.slice a2' lk' c2') := fun W hk => (n4.kept hk (fun h => h)).c2
  have h3 : ∀ W : World, Kp none' wc W → W.cell? ⟨w.heap.size + 1, 3, none⟩ = some (.slice a3' ld' c3') := fun W hk => (n4.kept hk (fun h => h)).c3
  have p0 : ∀ W : World, Kp none' wc W → W.cell? ⟨w3.heap.size, 0, none⟩ = some (.bool l1) := fun W hk => (g7.kept hk (fun h => h)).c0
  have p1 : ∀ W : World, Kp none' wc W → W.cell? ⟨w3.heap.size, 1, none⟩ = some (.slice b1 m1 o1) := fun W hk => (g7.kept hk (fun h => h)).c1
  have p2 : ∀ W : World, Kp none' wc W → W.cell? ⟨w3.heap.size, 2, none⟩ = some (.slice b2 m2 o2) := fun W hk => (g7.kept hk (fun h => h)).c2
  have p3 : ∀ W : World, Kp none' wc W → W.cell? ⟨w3.heap.size, 3, none⟩ = some (.slice b3 m3 o3) := fun W hk => (g7.kept hk (fun h => h)).c3
  have q0 : ∀ W : World, Kp none' wc W → W.cell? ⟨w3.heap.size + 1, 0, none⟩ = some (.bool l4) := fun W hk => (g8.kept hk (fun h => h)).c0
  have q1 : ∀ W : World, Kp none' wc W → W.cell? ⟨w3.heap.size + 1, 1, none⟩ = some (.slice b4 m4 o4) := fun W hk => (g8.kept hk (fun h => h)).c1
  have q2 : ∀ W : World, Kp none' wc W → W.cell? ⟨w3.heap.size + 1, 2, none⟩ = some (.slice b5 m5 o5) := fun W hk => (g8.kept hk (fun h => h)).c2
  have q3 : ∀ W : World, Kp none' wc W → W.cell? ⟨w3.heap.size + 1, 3, none⟩ = some (.slice b6 m6 o6) := fun W hk => (g8.kept hk (fun h => h)).c3
  have i0 : ∀ W : World, Kp none' wc W → W.cell? ⟨w5.heap.size, 0, none⟩ = some (.bool r1) := fun W hk => (g10.kept hk (fun h => h)).c0
  have i1 : ∀ W : World, Kp none' wc W → W.cell? ⟨w5.heap.size, 1, none⟩ = some (.slice s1 t1 u1) := fun W hk => (g10.kept hk (fun h => h)).c1
  have i2 : ∀ W : World, Kp none' wc W → W.cell? ⟨w5.heap.size, 2, none⟩ = some (.slice s2 t2 u2) := fun W hk => (g10.kept hk (fun h => h)).c2
  have i3 : ∀ W : World, Kp none' wc W → W.cell? ⟨w5.heap.size, 3, none⟩ = some (.slice s3 t3 u3) := fun W hk => (g10.kept hk (fun h => h)).c3
  have j0 : ∀ W : World, Kp none' wc W → W.cell? ⟨w5.heap.size + 1, 0, none⟩ = some (.bool r4) := fun W hk => (g11.kept hk (fun h => h)).c0
  have j1 : ∀ W : World, Kp none' wc W → W.cell? ⟨w5.heap.size + 1, 1, none⟩ = some (.slice s4 t4 u4) := fun W hk => (g11.kept hk (fun h => h)).c1
  have j2 : ∀ W : World, Kp none' wc W → W.cell? ⟨w5.heap.size + 1, 2, none⟩ = some (.slice s5 t5 u5) := fun W hk => (g11.kept hk (fun h => h)).c2
  have j3 : ∀ W : World, Kp none' wc W → W.cell? ⟨w5.heap.size + 1, 3, none⟩ = some (.slice s6 t6 u6) := fun W hk => (g11.kept hk (fun h => h)).c3
  have HS1 : Hid (∀ (W : World) (X Y : Value), X = .agg #[.bool l1, .slice b1 m1 o1, .slice b2 m2 o2, .slice b3 m3 o3] → Y = .agg #[.bool r1, .slice s1 t1 u1, .slice s2 t2 u2, .slice s3 t3 u3] → Kp none' wc W → Calls Try.prog 18 #[X, Y] W fun e w' => e = .returned (.bool true) ∧ Kp none' wc w') := by
    intro W X Y hX hY hk
    subst hX hY
    exact (rsame_any _ _ n.fst _ _ W (hA.keptN hk) (hC.keptN hk)).mono (by rintro e w' ⟨rfl, h⟩; exact ⟨rfl, hk.thenN h⟩)
  have HS2 : Hid (∀ (W : World) (X Y : Value), X = .agg #[.bool l4, .slice b4 m4 o4, .slice b5 m5 o5, .slice b6 m6 o6] → Y = .agg #[.bool r4, .slice s4 t4 u4, .slice s5 t5 u5, .slice s6 t6 u6] → Kp none' wc W → Calls Try.prog 18 #[X, Y] W fun e w' => e = .returned (.bool true) ∧ Kp none' wc w') := by
    intro W X Y hX hY hk
    subst hX hY
    exact (rsame_any _ _ n.snd _ _ W (hB.keptN hk) (hD.keptN hk)).mono (by rintro e w' ⟨rfl, h⟩; exact ⟨rfl, hk.thenN h⟩)
  have HS3 : Hid (∀ (W : World) (X Y : Value) (B B' : Nat), Nv B W X (n.join m key) → Nv B' W Y (n.join m key) → Kp none' wc W → Calls Try.prog 18 #[X, Y] W fun e w' => e = .returned (.bool true) ∧ Kp none' wc w') := fun W X Y B B' h1 h2 hk => (rsame_any _ _ _ _ _ W h1 h2).mono (by rintro e w' ⟨rfl, h⟩; exact ⟨rfl, hk.thenN h⟩)
  have HJ1 : Hid (∀ W : World, Kp none' wc W → Calls Try.prog 24 #[.agg #[.bool lf, .slice a1 lp c1, .slice a2 lk c2, .slice a3 ld c3], .agg #[.bool lf', .slice a1' lp' c1', .slice a2' lk' c2', .slice a3' ld' c3'], .string key] W fun e w' => ∃ y, e = .returned y ∧ Nv w'.heap.size w' y (n.join m key) ∧ Kp none' W w') := fun W hk => HJo.out W (SW.thenN hk)
  have HJ2 : Hid (∀ W : World, Kp none' wc W → Calls Try.prog 25 #[.agg #[.bool lf, .slice a1 lp c1, .slice a2 lk c2, .slice a3 ld c3], .agg #[.bool lf', .slice a1' lp' c1', .slice a2' lk' c2', .slice a3' ld' c3'], .string key] W fun e w' => ∃ y, e = .returned y ∧ Nv w'.heap.size w' y (n.join m key) ∧ Kp none' W w') := fun W hk => HJr.out W (SW.thenN hk)
  have dc : Kp none' wc wc.drew := Kp.drew _ _
  have hkk : (key0.toList == key0.toList) = true := by simp
  clear hA hB hC hD n3 n4 g7 g8 g10 g11 HSp HSr HJo HJr S1 S2 hk1 hk3 hk5 hkA hkB hK0
  go_region_held_law (fun W => Kp none' wc W) (first | assumption | exact dc) (first
    | (go_at_call 24; refine (HJ1.out _ (by assumption)).mono ?_; rintro e w6 ⟨y6, rfl, hN6, hg6⟩; have S6 : Kp none' wc w6 := Kp.thenN (by assumption) hg6)
    | (go_at_call 25; refine (HJ2.out _ (by assumption)).mono ?_; rintro e w7 ⟨y7, rfl, hN7, hg7⟩; have S7 : Kp none' wc w7 := Kp.thenN (by assumption) hg7; have hN6' := hN6.keptN hg7)
    | (go_at_call 18; refine (HS1.out _ _ _ (by with_reducible rfl) (by with_reducible rfl) (by assumption)).mono ?_; rintro e w8 ⟨rfl, S8⟩)
    | (go_at_call 18; refine (HS2.out _ _ _ (by with_reducible rfl) (by with_reducible rfl) (by assumption)).mono ?_; rintro e w9 ⟨rfl, S9⟩)
    | (go_at_call 18; refine (HS3.out _ _ _ _ _ hN6' hN7 (by assumption)).mono ?_; rintro e w10 ⟨rfl, S10⟩))
  go_wp2
  go_ret
  exact ⟨by simp, (SW.thenN S10).grown⟩

end Go.Proofs.Ytjmkfkmdafjgnaa.nodeSplits
