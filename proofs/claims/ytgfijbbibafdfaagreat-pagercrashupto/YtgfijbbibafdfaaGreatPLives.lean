/- Contract, over the turned program: the laws' lives. Conditions: those that the theorem states. -/
import Derived.Test.YtgfijbbibafdfaaGreatPSem
import Derived.Test.YtgfijbbibafdfaaGreatPOpen
import Derived.Test.YtgfijbbibafdfaaGreatPRef
namespace Go.Proofs.YtgfijbbibafdfaaGreat
open Go.RowKit
set_option linter.unusedVariables false

/-- A device with pages Q, sure, nothing under way; its calls. -/
structure Rest (w : World) (p : Dp) (D : Dv) (n : Nat) (Q : Nat → ByteArray) (m : Int) : Prop where
  hd : Dev w p D
  hn : D.n = 126 + 4 * n
  hu : ∀ k, D.u k = none
  hc : Clean n D.s Q
  c0 : 0 ≤ D.c
  c1 : D.c ≤ m
theorem kpN {S : Nat → Prop} {w w1 w2 : World} (h : Kp none' w w1) (h' : Kp S w1 w2) (hS : ∀ k, S k → w.heap.size ≤ k) : Kp none' w w2 := h.trans h' (fun _ _ h => h) (fun k hk hs => absurd hk (by have := hS k hs; omega))
theorem newN_need (n : Nat) (h : n ≤ 160) : newN (126 + 4 * (n : Int)) = 126 + 4 * n := by unfold newN; omega
/-- A new device for n pages. -/
theorem rest_new {w : World} {p : Dp} {n : Nat} (h : n ≤ 160) (hD : Dev w p (fresh (newN (126 + 4 * (n : Int))))) : Rest w p (fresh (126 + 4 * n)) n (fun _ => fillB 0) 0 := by
  rw [newN_need n h] at hD
  exact ⟨hD, rfl, fun _ => rfl, fresh_clean n _, Int.le_refl _, Int.le_refl _⟩
theorem Rest.keptN {w w' : World} {p : Dp} {D : Dv} {n : Nat} {Q : Nat → ByteArray} {m : Int} (h : Rest w p D n Q m) (hk : Kp none' w w') : Rest w' p D n Q m := ⟨h.hd.keptN hk, h.hn, h.hu, h.hc, h.c0, h.c1⟩
/-- Opening it. -/
theorem rest_open {w : World} {p : Dp} {D : Dv} {n : Nat} {Q : Nat → ByteArray} {m : Int} (h : Rest w p D n Q m) (hm : m ≤ 980000) (hn1 : 1 ≤ n) (hn2 : n ≤ 160) :
    Calls Tryz.prog 9 #[.pointer (some ⟨p.d, 0, none⟩), .int .i64 n] w fun e w' => ∃ g, e = .returned (.tuple #[.pointer (some ⟨g, 0, none⟩), .int .i64 0]) ∧ Rest w' p D n Q m ∧ Pag w' g p n 0 (.slice none 0 0) [] ∧ w.heap.size ≤ g ∧ Kp p.mem w w' := by
  have ho := open_any p D n w h.hd h.c0 (Int.le_trans h.c1 hm) hn1 (by rw [h.hn]; exact Nat.le_refl _) hn2
  obtain ⟨e1, e2⟩ := clean_back h.hu h.hc
  rw [e1, e2] at ho
  refine ho.mono ?_
  rintro e w' ⟨pv, rfl, hD, hk, h1, _⟩
  obtain ⟨g, rfl, hP, hg⟩ := h1 rfl
  exact ⟨g, rfl, ⟨hD, h.hn, h.hu, h.hc, h.c0, h.c1⟩, hP, hg, hk⟩
/-- A commit upon it that ends well: the device doesn't stand still. -/
theorem rest_commit {w : World} {p : Dp} {D : Dv} {n g : Nat} {Q : Nat → ByteArray} {m c : Int} {bv v : Value} {l : List Chg} (h : Rest w p D n Q m) (hst : D.st = false) (hm : m ≤ 900000) (hn2 : n ≤ 160) (hQ : ∀ p, (Q p).size = 256) (hP : Pag w g p n c bv [])
    (hS : Chs (fun k => ¬ p.mem k) w v l) (hok : okC n l) (hne : l ≠ []) (hc0 : 0 ≤ c) (hc1 : c ≤ 1000000) :
    Calls Tryz.prog 15 #[.pointer (some ⟨g, 0, none⟩), v] w fun e w' => ∃ D', e = .returned (.int .i64 0) ∧ Rest w' p D' n (withC Q l) (m + (8 * l.length + 7)) ∧ D'.st = false ∧ D'.c = D.c + (8 * l.length + 7) ∧ Pag w' g p n (c + 1) bv [] ∧ Kp (fun k => p.mem k ∨ k = g) w w' := by
  have hco := commit_ok g n p D c bv v l w hP h.hd h.c0 (Int.le_trans h.c1 hm) (by rw [h.hn]; exact Nat.le_refl _) hn2 h.hu hS hok hne hc0 hc1
  rw [clean_old h.hu h.hc hQ hok] at hco
  have h0 : D.goE (cmW (oldC Q l) l) = 0 := goE_free _ D hst
  obtain ⟨a, _⟩ := commit_pure n D Q l h.hn hn2 h.hu h.hc hQ hok
  obtain ⟨a1, a2⟩ := a h0
  have hcc := go_c (cmW (oldC Q l) l) D h0
  have hgn := go_n (cmW (oldC Q l) l) D
  have hlen := cmW_len (oldC Q l) l
  have hol : (oldC Q l).length = l.length := by simp [oldC]
  rw [hol] at hlen
  refine hco.mono ?_
  rintro e w' ⟨rfl, hD, hk, hP1, _⟩
  have hc1' := h.c1
  have hc0' := h.c0
  exact ⟨_, by rw [h0], ⟨hD, by rw [hgn.1, h.hn], a2, a1, by omega, by omega⟩, by rw [hgn.2.1]; exact hst, by omega, hP1 h0, hk⟩
/-- Reading a page of it. -/
theorem rest_read {w : World} {p : Dp} {D : Dv} {n g k : Nat} {Q : Nat → ByteArray} {m c : Int} {bv : Value} (h : Rest w p D n Q m) (hn2 : n ≤ 160) (hQ : ∀ p, (Q p).size = 256) (hP : Pag w g p n c bv []) (hk : k < n) :
    Calls Tryz.prog 20 #[.pointer (some ⟨g, 0, none⟩), .int .i64 k] w fun e w' => e = .returned (.tuple #[.string (Q k), .int .i64 0]) ∧ Kp none' w w' := by
  have hr := pread_any g n k p D c bv [] w hP h.hd hk (by rw [h.hn]; exact Nat.le_refl _) hn2 (by simp)
  rw [show rdP D [] k = lookS D (placeN k) from rfl, clean_look h.hu h.hc hQ k hk] at hr
  exact hr
/-- One change, in a row of its own. -/
theorem chs_one (w : World) (x : Chg) (t : TypeId) : Chs (fun k => w.heap.size ≤ k) (w.alloc (.cells #[.int .i64 x.page, .string x.data] t)) (.slice (some ⟨w.heap.size, 0, none⟩) 1 1) [x] := by
  have hv := chg_var w x t
  refine ⟨some ⟨w.heap.size, 0, none⟩, 1, rfl, Nat.le_refl _, by unfold maxLen; omega, fun i hi => ⟨w.heap.size, 0, rfl, Nat.le_refl _, by simp, ?_⟩⟩
  have : i = 0 := by simpa using hi
  subst this
  exact hv
set_option maxRecDepth 100000 in
set_option maxHeartbeats 1600000 in
theorem plives_any (w : World) : Calls Tryz.prog 4 #[] w fun e w' => e = .returned (.bool true) ∧ Kp none' w w' := by
  have HW : Hid (wrap64 (126 + 4 * 3) = 126 + 4 * ((3 : Nat) : Int)) := by show _ = _; unfold wrap64; omega
  obtain ⟨X, HX⟩ : ∃ X, Hid (fillB 7 = X) := ⟨_, rfl⟩
  have hXs : X.size = 256 := by rw [← HX.out]; exact fillB_size 7
  have hok : okC 3 [⟨1, X⟩] := ⟨by simp, by simp [hXs], by simp, by simp⟩
  have HQ1 : Hid (withC (fun _ => fillB 0) [⟨1, X⟩] 1 = X) := by show _ = _; rfl
  have hQ : ∀ p, ((fun _ => fillB 0 : Nat → ByteArray) p).size = 256 := fun _ => fillB_size 0
  have hQ2 := withC_size hQ hok
  obtain ⟨Q2, HQ2⟩ : ∃ Q2, Hid (withC (fun _ => fillB 0) [⟨1, X⟩] = Q2) := ⟨_, rfl⟩
  rw [HQ2.out] at HQ1 hQ2
  have hxx : (X.toList == X.toList) = true := by simp
  have hf7 : ∀ W : World, Calls Tryz.prog 19 #[.int .u8 7] W fun e w' => e = .returned (.string X) ∧ Kp none' W w' := fun W => by
    have := fill_any 7 W
    rw [HX.out] at this
    exact this
  clear HX
  go_enter Tryz.func4, Tryz.ntmps4
  go_upto_region 2 with (first
    | (go_at_call 8; refine (need_any _ _).mono ?_; rintro e w' ⟨rfl, rfl⟩; rw [HW.out])
    | (go_at_call 7; refine (new_any _ _).mono ?_; rintro e w1 ⟨p, rfl, hD1, hk1, hm1⟩)
    | fail)
  have hR1 := rest_new (n := 3) (by omega) hD1
  have ho1 := rest_open hR1 (by omega) (by omega) (by omega)
  rw [show (((3 : Nat) : Int)) = 3 from rfl] at ho1
  clear hD1
  go_upto_region 3 with (first
    | (go_at_call 9; refine ho1.mono ?_; rintro e w2 ⟨g, rfl, hR2, hP2, hg2, hk2⟩)
    | fail)
  clear ho1 hR1
  have hK2 := kpN hk1 hk2 hm1
  have hgw := Nat.le_trans hk1.size hg2
  have hco : ∀ W : World, Kp none' w2 W → Calls Tryz.prog 15 #[.pointer (some ⟨g, 0, none⟩), .slice (some ⟨W.heap.size, 0, none⟩) 1 1] (W.alloc (.cells #[.int .i64 1, .string X] 56)) fun e w' => ∃ D', e = .returned (.int .i64 0) ∧ Rest w' p D' 3 Q2 100 ∧ Pag w' g p 3 1 (.slice none 0 0) [] ∧ Kp (fun k => p.mem k ∨ k = g) (W.alloc (.cells #[.int .i64 1, .string X] 56)) w' := fun W hW => by
    have hka := Kp.alloc none' W (.cells #[.int .i64 1, .string X] 56)
    have hRW := (hR2.keptN hW)
    have hch : Chs (fun k => ¬ p.mem k) (W.alloc (.cells #[.int .i64 1, .string X] 56)) (.slice (some ⟨W.heap.size, 0, none⟩) 1 1) [⟨1, X⟩] := (chs_one W ⟨1, X⟩ 56).mono (fun k _ hk hm => by have := hRW.hd.lt k hm; omega)
    have := rest_commit (hRW.keptN hka) rfl (by omega) (by omega) hQ ((hP2.keptN hW).keptN hka) hch hok (by simp) (by omega) (by omega)
    refine this.mono ?_
    rintro e w' ⟨D', rfl, hR', _, _, hP', hk'⟩
    rw [HQ2.out] at hR'
    exact ⟨D', rfl, ⟨hR'.hd, hR'.hn, hR'.hu, hR'.hc, hR'.c0, Int.le_trans hR'.c1 (by simp)⟩, hP', hk'⟩
  have HCO := hide hco
  clear hco
  go_upto_region 5 with (first
    | (go_at_call 19; refine (hf7 _).mono ?_; rintro e w3 ⟨rfl, hk3⟩)
    | (go_at_call 15; refine (HCO.out w3 hk3).mono ?_; rintro e w4 ⟨D', rfl, hR4, hP4, hk4⟩)
    | fail)
  have hK3 := (hK2.then hk3).then (Kp.alloc none' w3 (.cells #[.int .i64 1, .string X] 56))
  have hK4 := kpN hK3 hk4 (fun k hk => by rcases hk with h | h; exact hm1 k h; rw [h]; exact hgw)
  have ho4 := rest_open hR4 (by omega) (by omega) (by omega)
  rw [show (((3 : Nat) : Int)) = 3 from rfl] at ho4
  clear HCO hR2 hk4 hK3 hk3
  go_upto_region 6 with (first
    | (go_at_call 9; refine ho4.mono ?_; rintro e w5 ⟨g', rfl, hR5, hP5, hg5, hk5⟩)
    | fail)
  have hK5 := kpN hK4 hk5 hm1
  have hPa := hP4.kept hk5
  have hrd := rest_read hR5 (by omega) hQ2 hP5 (k := 1) (by omega)
  rw [HQ1.out, show (((1 : Nat) : Int)) = 1 from rfl] at hrd
  clear ho4
  go_upto_region 7 with (first
    | (go_at_call 20; refine hrd.mono ?_; rintro e w6 ⟨rfl, hk6⟩)
    | fail)
  have hc2 := hk6.cell hPa.c2 (fun h => h)
  have hc1 := hk6.cell hP5.c1 (fun h => h)
  rw [show (((3 : Nat) : Int)) = 3 from rfl] at hc1
  go_wp2_with (first
    | (go_at_call 19; refine (hf7 _).mono ?_; rintro e w7 ⟨rfl, hk7⟩; have hd2 := hk7.cell hc2 (fun h => h); have hd1 := hk7.cell hc1 (fun h => h))
    | (go_at_call 21; refine (pcommits_any _ _ _ hd2).mono ?_; rintro e w' ⟨rfl, rfl⟩)
    | (go_at_call 22; refine (psize_any _ _ _ hd1).mono ?_; rintro e w' ⟨rfl, rfl⟩)
    | fail)
  go_ret
  exact ⟨rfl, (hK5.then hk6).then hk7⟩

end Go.Proofs.YtgfijbbibafdfaaGreat
