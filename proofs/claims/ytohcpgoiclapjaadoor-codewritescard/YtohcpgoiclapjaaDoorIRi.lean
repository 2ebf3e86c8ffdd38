/- Contract, over the turned program: the reader's inst answers the instruction that bytes begin with, or keeps the error. Conditions: those that each theorem states. -/
import Derived.Test.YtohcpgoiclapjaaDoorIRv
namespace Go.Proofs.YtohcpgoiclapjaaDoor
open Go.RowKit
set_option linter.unusedVariables false

/-- What a reading call tells: the instruction and what is left, or the error. -/
def ToldI (w' : World) (g b : Nat) (y : Except Int (In × List UInt8)) (x : In) : Prop :=
  match y with
  | .ok (x', q) => x = x' ∧ Cd w' g b (mkB q) 0 0
  | .error er => ∃ s e wr, Cd w' g b s e wr ∧ erI e wr = er
/-- A world with seven cells stored. -/
def put7 (w : World) (q : Nat) (x : In) : World :=
  ((((((w.setCell ⟨q, 0, none⟩ (.int .i64 x.op)).setCell ⟨q, 1, none⟩ (.int .i64 x.a)).setCell ⟨q, 2, none⟩ (.int .i64 x.b)).setCell ⟨q, 3, none⟩ (.int .i64 x.c)).setCell ⟨q, 4, none⟩ (.int .i64 x.v.k)).setCell ⟨q, 5, none⟩ (.int .i64 x.v.n)).setCell ⟨q, 6, none⟩ (.string x.v.s)
theorem grown_set (w : World) (q j : Nat) (v : Value) : w.grownBy (w.setCell ⟨q, j, none⟩ v) (some q) := ⟨rfl, rfl, rfl, by simp, fun k _ hk => heap_setCell_other w _ k _ (fun hb => hk (by simp [hb]))⟩
theorem Ib.put7 {w : World} {q : Nat} {x : In} (h : Ib w q x) (y : In) : Ib (put7 w q y) q y ∧ w.grownBy (Go.Proofs.YtohcpgoiclapjaaDoor.put7 w q y) (some q) := by
  constructor
  · unfold Ib at h ⊢
    have h1 := heap_setCell_same w q 0 _ 42 (.int .i64 y.op) h
    have h2 := heap_setCell_same _ q 1 _ 42 (.int .i64 y.a) h1
    have h3 := heap_setCell_same _ q 2 _ 42 (.int .i64 y.b) h2
    have h4 := heap_setCell_same _ q 3 _ 42 (.int .i64 y.c) h3
    have h5 := heap_setCell_same _ q 4 _ 42 (.int .i64 y.v.k) h4
    have h6 := heap_setCell_same _ q 5 _ 42 (.int .i64 y.v.n) h5
    have h7 := heap_setCell_same _ q 6 _ 42 (.string y.v.s) h6
    unfold Go.Proofs.YtohcpgoiclapjaaDoor.put7
    rw [h7]
    rfl
  · unfold Go.Proofs.YtohcpgoiclapjaaDoor.put7
    exact grown_trans (grown_trans (grown_trans (grown_trans (grown_trans (grown_trans (grown_set _ _ _ _) (grown_set _ _ _ _) (.inl rfl)) (grown_set _ _ _ _) (.inl rfl)) (grown_set _ _ _ _) (.inl rfl)) (grown_set _ _ _ _) (.inl rfl)) (grown_set _ _ _ _) (.inl rfl)) (grown_set _ _ _ _) (.inl rfl)
/-- Behind the store of an instruction at its block, which is new. -/
theorem iend {S : Nat → Prop} {w w1 : World} {g b q : Nat} {s : ByteArray} {e wr : Int} {x : In} (y : In) (hK : Kp S w w1) (hC : Cd w1 g b s e wr) (hV : Ib w1 q x) (hq : w.heap.size ≤ q) (hb : b ≠ q) (hg : g ≠ q) :
    Ib (put7 w1 q y) q y ∧ Cd (put7 w1 q y) g b s e wr ∧ Kp S w (put7 w1 q y) := by
  have h := hV.put7 y
  exact ⟨h.1, hC.kept h.2 (by intro hh; exact hb (Option.some.inj hh)) (by intro hh; exact hg (Option.some.inj hh)), hK.step h.2 (fun k hk => by cases hk; exact .inr hq)⟩
def zI : In := ⟨0, 0, 0, 0, zV⟩
/-- Three numbers, one of them stored. -/
theorem Ab.put {w : World} {q : Nat} {x y z : Int} (h : Ab w q x y z) (k : Nat) (hk : k < 3) (v : Int) :
    Ab (w.setCell ⟨q, k, none⟩ (.int .i64 v)) q (if k = 0 then v else x) (if k = 1 then v else y) (if k = 2 then v else z) ∧ w.grownBy (w.setCell ⟨q, k, none⟩ (.int .i64 v)) (some q) ∧ ∃ u, w.cell? ⟨q, k, none⟩ = some u := by
  refine ⟨?_, grown_set _ _ _ _, ?_⟩
  · unfold Ab at h ⊢
    rcases (by omega : k = 0 ∨ k = 1 ∨ k = 2) with rfl | rfl | rfl <;> rw [heap_setCell_same w q _ _ 60 _ h] <;> rfl
  · obtain ⟨c0, c1, c2⟩ := h.cs
    rcases (by omega : k = 0 ∨ k = 1 ∨ k = 2) with rfl | rfl | rfl
    · exact ⟨_, c0⟩
    · exact ⟨_, c1⟩
    · exact ⟨_, c2⟩
theorem atO_step (r : List UInt8) (c : UInt8) (j i : Nat) (h : r[j]? = some c) : atO r (j + 1) i = if j = i then (c.toNat : Int) else atO r j i := by
  unfold atO
  by_cases h1 : j = i
  · subst h1
    rw [if_pos (by omega), if_pos rfl, List.getD_eq_getElem?_getD, h]
    rfl
  · rw [if_neg h1]
    by_cases h2 : i < j
    · rw [if_pos (by omega), if_pos h2]
    · rw [if_neg (by omega), if_neg h2]

set_option maxRecDepth 100000 in
set_option maxHeartbeats 1000000 in
theorem inst_bad (g b : Nat) (c : UInt8) (r : List UInt8) (w : World) (h : Cd w g b (mkB (c :: r)) 0 0) (hs : (c :: r).length ≤ maxLen) (hG : Glob w) (hb0 : 0 < b) (ho : opOk (c.toNat : Int) = false) :
    Calls Tryd.prog 23 #[.pointer (some ⟨g, 0, none⟩)] w fun e w' => ∃ x : In, e = .returned x.val ∧ ToldI w' g b (.error 4) x ∧ Kp (two b g) w w' := by
  have hga := World.grownBy_alloc w (.cells #[.int .i64 0, .int .i64 0, .int .i64 0, .int .i64 0, .int .i64 0, .int .i64 0, .string ⟨#[]⟩] 42) none
  have h0 := h.keptN hga
  have hV := Ib.new w zI
  have hG0 := hG.keptN hga
  have hb := h.rd.lt
  have hg := h.cr.lt
  have c0 := h0.cr.c0
  have Hs := hide hs
  have hwb := wrap_byte c
  have ho2 : nOpI (c.toNat : Int) = 0 := by unfold nOpI; rw [ho]; rfl
  clear hs
  go_enter Tryd.func23, Tryd.ntmps23
  go_wp2_with fail
  refine (rnum1_cons b _ _ _ h0.rd Hs.out).mono ?_
  rintro x w1 ⟨rfl, hR1, hg1⟩
  have h1 := h0.read hR1 hg1
  have hV1 : Ib w1 w.heap.size zI := hV.kept hg1 (by simp; omega)
  have hG1 := hG0.kept hg1 (by simp; omega)
  have hK1 : Kp (two b g) w w1 := (Kp.ofN hga _).step hg1 (fun k hk => by cases hk; exact .inl (.inl rfl))
  clear c0 hV hga h0 hG0
  go_wp2_with fail
  try rw [hwb]
  refine (operands_any _ _ hG1).mono ?_
  rintro x w2 ⟨rfl, hw⟩
  obtain rfl := hw.symm
  rw [ho, ho2]
  go_wp2_with fail
  refine (refuse_ok _ _ _ _ h1).mono ?_
  rintro x w2 ⟨rfl, h2, hg2⟩
  have hV2 := hV1.kept hg2 (by simp; omega)
  have hK2 : Kp (two b g) w w2 := hK1.step hg2 (fun k hk => by cases hk; exact .inl (.inr rfl))
  obtain ⟨d0, d1, d2, d3, d4, d5, d6⟩ := hV2.cs
  have f0 := hV2.fz 0; have f1 := hV2.fz 1; have f2 := hV2.fz 2; have f3 := hV2.fz 3; have f4 := hV2.fz 4; have f5 := hV2.fz 5; have f6 := hV2.fz 6
  have hE := iend zI hK2 h2 hV2 (Nat.le_refl _) (by omega) (by omega)
  clear hV1 hV2
  generalize w.heap.size = q at *
  go_wp2_with fail
  refine bodyPost_ret (results_ib rfl _ q _ zI rfl hE.1) rfl ?_
  exact ⟨zI, rfl, ⟨_, _, _, hE.2.1, rfl⟩, hE.2.2⟩

theorem Ib.keptK {S : Nat → Prop} {w w' : World} {b : Nat} {x : In} (h : Ib w b x) (hk : Kp S w w') (hn : ¬ S b) : Ib w' b x := by
  unfold Ib
  rw [hk.block b h.lt hn]
  exact h
/-- An instruction with another value. -/
def In.setV (x : In) (v : V) : In := ⟨x.op, x.a, x.b, x.c, v⟩
def put3 (w : World) (m : Nat) (v : V) : World := ((w.setCell ⟨m, 4, none⟩ (.int .i64 v.k)).setCell ⟨m, 5, none⟩ (.int .i64 v.n)).setCell ⟨m, 6, none⟩ (.string v.s)
theorem Ib.put3 {w : World} {m : Nat} {x : In} (h : Ib w m x) (v : V) : Ib (put3 w m v) m (x.setV v) ∧ w.grownBy (Go.Proofs.YtohcpgoiclapjaaDoor.put3 w m v) (some m) := by
  constructor
  · unfold Ib at h ⊢
    have h5 := heap_setCell_same w m 4 _ 42 (.int .i64 v.k) h
    have h6 := heap_setCell_same _ m 5 _ 42 (.int .i64 v.n) h5
    have h7 := heap_setCell_same _ m 6 _ 42 (.string v.s) h6
    unfold Go.Proofs.YtohcpgoiclapjaaDoor.put3
    rw [h7]
    rfl
  · unfold Go.Proofs.YtohcpgoiclapjaaDoor.put3
    exact grown_trans (grown_trans (grown_set _ _ _ _) (grown_set _ _ _ _) (.inl rfl)) (grown_set _ _ _ _) (.inl rfl)
/-- The reader and the operands behind j of them. -/
def Opd (w : World) (g b p : Nat) (r : List UInt8) (j : Nat) : Prop :=
  (j ≤ r.length ∧ Cd w g b (mkB (r.drop j)) 0 0 ∧ Ab w p (atO r j 0) (atO r j 1) (atO r j 2)) ∨ (r.length < j ∧ ∃ x y z, Cd w g b (mkB []) 2 0 ∧ Ab w p x y z)
theorem drop_at (r : List UInt8) (j : Nat) (h : j < r.length) : ∃ c, r[j]? = some c ∧ r.drop j = c :: r.drop (j + 1) := ⟨r[j], by simp, List.drop_eq_getElem_cons h⟩
theorem opd_parts {w : World} {g b p : Nat} {r : List UInt8} {j : Nat} (h : Opd w g b p r j) : ∃ s e x y z, Cd w g b s e 0 ∧ Ab w p x y z ∧ ((j ≤ r.length ∧ s = mkB (r.drop j) ∧ e = 0 ∧ x = atO r j 0 ∧ y = atO r j 1 ∧ z = atO r j 2) ∨ (r.length < j ∧ s = mkB [] ∧ e = 2)) := by
  rcases h with ⟨h1, h2, h3⟩ | ⟨h1, x, y, z, h2, h3⟩
  · exact ⟨_, _, _, _, _, h2, h3, .inl ⟨h1, rfl, rfl, rfl, rfl, rfl⟩⟩
  · exact ⟨_, _, _, _, _, h2, h3, .inr ⟨h1, rfl, rfl⟩⟩
/-- What the next number is, and how the reader and the operands stand behind its store. -/
theorem opd_num {w : World} {g b p : Nat} {r : List UInt8} {j : Nat} (h : Opd w g b p r j) (hj : j < 3) (hr : r.length ≤ maxLen) (hb : b ≠ p) (hg : g ≠ p) :
    Calls Tryd.prog 36 #[.pointer (some ⟨b, 0, none⟩), .int .i64 1] w fun y w' => ∃ n : UInt8, y = .returned (.int .u64 (n.toNat : Int)) ∧ w.grownBy w' (some b) ∧ w'.frozen? ⟨p, j, none⟩ = false ∧ (∃ u, w'.cell? ⟨p, j, none⟩ = some u) ∧ Opd (w'.setCell ⟨p, j, none⟩ (.int .i64 (n.toNat : Int))) g b p r (j + 1) := by
  have hbp : (some p : Option Nat) ≠ some b := by intro hh; exact hb (Option.some.inj hh).symm
  rcases h with ⟨h1, h2, h3⟩ | ⟨h1, x, y, z, h2, h3⟩
  · by_cases h4 : j < r.length
    · obtain ⟨c, hc, hd⟩ := drop_at r j h4
      have h2' := h2
      rw [hd] at h2
      refine (rnum1_cons b c _ w h2.rd (by rw [← hd]; simp; omega)).mono ?_
      rintro y w' ⟨rfl, hr', hg'⟩
      have hA := h3.kept hg' hbp
      have hP := hA.put j hj (c.toNat : Int)
      refine ⟨c, rfl, hg', hA.fz j, hP.2.2, .inl ⟨by omega, ((h2.read hr' hg').kept hP.2.1 (by intro hh; exact hb (Option.some.inj hh)) (by intro hh; exact hg (Option.some.inj hh))), ?_⟩⟩
      rw [atO_step r c j 0 hc, atO_step r c j 1 hc, atO_step r c j 2 hc]
      exact hP.1
    · have hd : r.drop j = [] := List.drop_eq_nil_of_le (by omega)
      rw [hd] at h2
      refine (rnum_short b 1 [] w h2.rd (by decide)).mono ?_
      rintro y w' ⟨rfl, hr', hg'⟩
      have hA := h3.kept hg' hbp
      have hP := hA.put j hj 0
      exact ⟨0, rfl, hg', hA.fz j, hP.2.2, .inr ⟨by omega, _, _, _, ((h2.read hr' hg').kept hP.2.1 (by intro hh; exact hb (Option.some.inj hh)) (by intro hh; exact hg (Option.some.inj hh))), hP.1⟩⟩
  · refine (rnum_err b 1 2 (mkB []) w h2.rd (by decide) (by simp [mkB_size])).mono ?_
    rintro y w' ⟨rfl, hr', hg'⟩
    have hA := h3.kept hg' hbp
    have hP := hA.put j hj 0
    exact ⟨0, rfl, hg', hA.fz j, hP.2.2, .inr ⟨by omega, _, _, _, ((h2.read hr' hg').kept hP.2.1 (by intro hh; exact hb (Option.some.inj hh)) (by intro hh; exact hg (Option.some.inj hh))), hP.1⟩⟩

/-- What the value's reading makes of the instruction. -/
def Tv (g b : Nat) (y : Except Int (In × List UInt8)) (x : In) (w' : World) (v : V) : Prop :=
  (∃ q, y = .ok (x.setV v, q) ∧ Cd w' g b (mkB q) 0 0) ∨ (∃ er s e wr, y = .error er ∧ Cd w' g b s e wr ∧ erI e wr = er)
theorem Tv.told {g b : Nat} {y : Except Int (In × List UInt8)} {x : In} {w w' : World} {v : V} (h : Tv g b y x w v) (hk : ∀ s e wr, Cd w g b s e wr → Cd w' g b s e wr) : ToldI w' g b y (x.setV v) := by
  rcases h with ⟨q, rfl, hc⟩ | ⟨er, s, e, wr, rfl, hc, he⟩
  · exact ⟨rfl, hk _ _ _ hc⟩
  · exact ⟨s, e, wr, hk _ _ _ hc, he⟩

set_option maxRecDepth 100000 in
set_option maxHeartbeats 2000000 in
theorem inst_good (g b : Nat) (c : UInt8) (r : List UInt8) (w : World) (h : Cd w g b (mkB (c :: r)) 0 0) (hs : (c :: r).length ≤ maxLen) (hG : Glob w) (hb0 : 0 < b) (ho : opOk (c.toNat : Int) = true) :
    Calls Tryd.prog 23 #[.pointer (some ⟨g, 0, none⟩)] w fun e w' => ∃ x : In, e = .returned x.val ∧ ToldI w' g b (pI (c :: r)) x ∧ Kp (two b g) w w' := by
  have hga := World.grownBy_alloc w (.cells #[.int .i64 0, .int .i64 0, .int .i64 0, .int .i64 0, .int .i64 0, .int .i64 0, .string ⟨#[]⟩] 42) none
  have h0 := h.keptN hga
  have hV := Ib.new w zI
  have hG0 := hG.keptN hga
  have hb := h.rd.lt
  have hg := h.cr.lt
  have c0 := h0.cr.c0
  have Hs := hide hs
  have Hr : Hid (r.length ≤ maxLen) := by show _ ≤ _; simp only [List.length_cons] at hs; omega
  have hwb := wrap_byte c
  have ho2 : nOpI (c.toNat : Int) = (nOps (c.toNat : Int) : Int) := by unfold nOpI; rw [ho]; rfl
  obtain ⟨nn, HN⟩ : ∃ nn : Nat, Hid (nOps (c.toNat : Int) = nn) := ⟨_, rfl⟩
  have hn3 : nn ≤ 3 := by have := HN.out; have := nOps_le (c.toNat : Int); omega
  have HO := hide ho
  clear hs
  go_enter Tryd.func23, Tryd.ntmps23
  go_wp2_with fail
  refine (rnum1_cons b _ _ _ h0.rd Hs.out).mono ?_
  rintro x w1 ⟨rfl, hR1, hg1⟩
  have h1 := h0.read hR1 hg1
  have hV1 : Ib w1 w.heap.size zI := hV.kept hg1 (by simp; omega)
  have hG1 := hG0.kept hg1 (by simp; omega)
  have hK1 : Kp (two b g) w w1 := (Kp.ofN hga _).step hg1 (fun k hk => by cases hk; exact .inl (.inl rfl))
  clear c0 hV hga h0 hG0
  go_wp2_with fail
  try rw [hwb]
  refine (operands_any _ _ hG1).mono ?_
  rintro x w2 ⟨rfl, hw⟩
  obtain rfl := hw.symm
  rw [ho, ho2, HN.out]
  clear ho2 ho hw
  have hga := World.grownBy_alloc w1 (.cells #[.int .i64 0, .int .i64 0, .int .i64 0] 60) none
  have hO : Opd (w1.alloc (.cells #[.int .i64 0, .int .i64 0, .int .i64 0] 60)) g b w1.heap.size r 0 := by
    refine .inl ⟨Nat.zero_le _, by rw [List.drop_zero]; exact h1.keptN hga, ?_⟩
    have e : ∀ i, atO r 0 i = 0 := fun i => by simp [atO]
    rw [e, e, e]
    exact heap_alloc_new w1 _
  have hV2 := hV1.kept hga (by simp)
  have hK2 := hK1.step hga (fun k hk => by cases hk)
  have hq1 : w.heap.size < w1.heap.size := hV1.lt
  have hbp : b ≠ w1.heap.size := by have := h1.rd.lt; omega
  have hgp : g ≠ w1.heap.size := by have := h1.cr.lt; omega
  clear h1 hR1 hg1 hV1 hG1 hK1 hga
  obtain ⟨p, HP⟩ : ∃ p, Hid (w1.heap.size = p) := ⟨_, rfl⟩
  rw [HP.out] at hO hq1 hbp hgp
  go_wp2_with fail
  rw [HP.out]
  go_loopw [26] (fun i wr => ∃ j : Nat, j ≤ nn ∧ i = .int .i64 j ∧ Opd wr g b p r j ∧ Ib wr w.heap.size zI ∧ Kp (two b g) w wr) (fun i _ => nn - (intOf i).toNat)
  case atStart => exact ⟨0, Nat.zero_le _, rfl, hO, hV2, hK2⟩
  case round =>
    clear hO hV2 hK2
    obtain ⟨j, hj, rfl, hO, hV, hK⟩ := hrel
    obtain ⟨s0, e0, xx, yy, zz, hC, hA, hcase⟩ := opd_parts hO
    have c0 := hC.cr.c0
    by_cases hlt : j < nn
    · have Hnum := hide (opd_num hO (by omega) Hr.out hbp hgp)
      clear hcase
      go_wp2_with fail
      refine Hnum.out.mono ?_
      rintro x w3 ⟨n, rfl, hg3, f3, ⟨u3, c3⟩, hO3⟩
      have hV3 := hV.kept hg3 (by simp; omega)
      have hK3 := hK.step hg3 (fun k hk => by cases hk; exact .inl (.inl rfl))
      have hwn := wrap_byte n
      clear c0
      go_wp2_with fail
      try rw [hwn]
      have hst := grown_set w3 p j (.int .i64 (n.toNat : Int))
      refine ⟨⟨j + 1, by omega, by go_num, hO3, hV3.kept hst (by simp; omega), hK3.step hst (fun k hk => by cases hk; exact .inr (by omega))⟩, by simp [intOf]; omega⟩
    · obtain rfl : j = nn := by omega
      obtain ⟨a0, a1, a2⟩ := hA.cs
      have hM := Ib.new wr ⟨(c.toNat : Int), xx, yy, zz, zV⟩
      have hgm := World.grownBy_alloc wr (.cells #[.int .i64 (c.toNat : Int), .int .i64 xx, .int .i64 yy, .int .i64 zz, .int .i64 0, .int .i64 0, .string ⟨#[]⟩] 42) none
      have hC2 := hC.keptN hgm
      have hQ := hV.kept hgm (by simp)
      have hK2 := hK.step hgm (fun k hk => by cases hk)
      have hqm : w.heap.size ≠ wr.heap.size := by have := hV.lt; omega
      have hbm : b ≠ wr.heap.size := by have := hC.rd.lt; omega
      have hgm2 : g ≠ wr.heap.size := by have := hC.cr.lt; omega
      by_cases h1 : c = 1
      · have h1' : ((c.toNat : Int) == 1) = true := by rw [h1]; rfl
        have HV : Hid (∀ W, Cd W g b s0 e0 0 → Calls Tryd.prog 38 #[.pointer (some ⟨g, 0, none⟩)] W fun e w' => ∃ v : V, e = .returned v.val ∧ Tv g b (pI (c :: r)) ⟨(c.toNat : Int), xx, yy, zz, zV⟩ w' v ∧ Kp (two b g) W w') := by
          intro W hW
          have hn1 : j = 1 := by have := HN.out; rw [h1] at this; rw [← this]; exact nOps1
          rcases hcase with ⟨h2, rfl, rfl, rfl, rfl, rfl⟩ | ⟨h2, rfl, rfl⟩
          · refine (ivalue_any g b (r.drop j) W hW (by have := Hr.out; simp; omega)).mono ?_
            rintro e w' ⟨v, rfl, ht, hk⟩
            refine ⟨v, rfl, ?_, hk⟩
            rw [pI_cons, HO.out, if_pos rfl, HN.out, if_neg (by omega), if_pos h1]
            subst hn1 h1
            cases hp : pC (r.drop 1) with
            | error er =>
              rw [hp] at ht
              obtain ⟨s, e, wr, hc, he⟩ := ht
              exact .inr ⟨_, s, e, wr, rfl, hc, he⟩
            | ok pq =>
              obtain ⟨v0, q0⟩ := pq
              rw [hp] at ht
              obtain ⟨rfl, hc⟩ := ht
              refine .inl ⟨q0, ?_, hc⟩
              rw [(atO1 r).1, (atO1 r).2]
              rfl
          · refine (ivalue_err g b _ 2 W hW (by decide) (by simp [mkB_size])).mono ?_
            rintro e w' ⟨rfl, hc, hk⟩
            refine ⟨zV, rfl, .inr ⟨2, _, _, _, ?_, hc, rfl⟩, hk⟩
            rw [pI_cons, HO.out, if_pos rfl, HN.out, if_pos h2]
        clear hcase h1
        go_wp2_with fail
        refine (HV.out _ hC2).mono ?_
        rintro x w4 ⟨v, rfl, hT, hK4⟩
        have hM4 := hM.keptK hK4 (by unfold two; omega)
        have hQ4 := hQ.keptK hK4 (by unfold two; omega)
        have hK5 := hK2.then hK4
        have hP3 := hM4.put3 v
        have hQ5 := hQ4.kept hP3.2 (by intro hh; exact hqm (Option.some.inj hh))
        have hK6 := hK5.step hP3.2 (fun k hk => by cases hk; exact .inr (by have := hV.lt; omega))
        have hP7 := hQ5.put7 ((In.mk (c.toNat : Int) xx yy zz zV).setV v)
        have HK := hide (hK6.step hP7.2 (fun k hk => by cases hk; exact .inr (Nat.le_refl _)))
        have HT := hide (hT.told (w' := put7 (put3 w4 wr.heap.size v) w.heap.size ((In.mk (c.toNat : Int) xx yy zz zV).setV v)) (fun s e wr' hc => (hc.kept hP3.2 (by intro hh; exact hbm (Option.some.inj hh)) (by intro hh; exact hgm2 (Option.some.inj hh))).kept hP7.2 (by simp; omega) (by simp; omega)))
        have hE1 := hP7.1
        obtain ⟨d0, d1, d2, d3, d4, d5, d6⟩ := hQ4.cs
        have f0 := hQ4.fz 0; have f1 := hQ4.fz 1; have f2 := hQ4.fz 2; have f3 := hQ4.fz 3; have f4 := hQ4.fz 4; have f5 := hQ4.fz 5; have f6 := hQ4.fz 6
        obtain ⟨m0, m1, m2, m3, m4, m5, m6⟩ := hM4.cs
        have g4 := hM4.fz 4; have g5 := hM4.fz 5; have g6 := hM4.fz 6
        have hM5 := hP3.1
        clear hC2 hK2 hM hK4 hK5 hT hP3 hK6 hP7 hQ4 hM4 hQ
        dsimp only at m0 m1 m2 m3 m4 m5 m6 d0 d1 d2 d3 d4 d5 d6
        generalize w.heap.size = q at *
        generalize wr.heap.size = m at *
        unfold V.val
        go_upto_region 15 with fail
        obtain ⟨w5, HW5⟩ : ∃ W, Hid (put3 w4 m v = W) := ⟨_, rfl⟩
        rw [show ((w4.setCell ⟨m, 4, none⟩ (.int .i64 v.k)).setCell ⟨m, 5, none⟩ (.int .i64 v.n)).setCell ⟨m, 6, none⟩ (.string v.s) = w5 from HW5.out]
        rw [HW5.out] at hM5 hQ5 hE1 HK HT
        clear d0 d1 d2 d3 d4 d5 d6 f0 f1 f2 f3 f4 f5 f6 m0 m1 m2 m3 m4 m5 m6 g4 g5 g6 HW5
        obtain ⟨d0, d1, d2, d3, d4, d5, d6⟩ := hQ5.cs
        have f0 := hQ5.fz 0; have f1 := hQ5.fz 1; have f2 := hQ5.fz 2; have f3 := hQ5.fz 3; have f4 := hQ5.fz 4; have f5 := hQ5.fz 5; have f6 := hQ5.fz 6
        obtain ⟨m0, m1, m2, m3, m4, m5, m6⟩ := hM5.cs
        unfold In.setV at m0 m1 m2 m3 m4 m5 m6
        dsimp only at m0 m1 m2 m3 m4 m5 m6 d0 d1 d2 d3 d4 d5 d6
        clear hM5 hQ5
        go_wp2_with fail
        refine bodyPost_ret (results_ib rfl _ q _ ((In.mk (c.toNat : Int) xx yy zz zV).setV v) rfl hE1) rfl ?_
        exact ⟨_, rfl, HT.out, HK.out⟩
      · have h1' : ((c.toNat : Int) == 1) = false := by rw [beq_eq_false_iff_ne]; exact fun hh => h1 (one_of c hh)
        have HE : Hid (ToldI (put7 (wr.alloc (.cells #[.int .i64 (c.toNat : Int), .int .i64 xx, .int .i64 yy, .int .i64 zz, .int .i64 0, .int .i64 0, .string ⟨#[]⟩] 42)) w.heap.size ⟨(c.toNat : Int), xx, yy, zz, zV⟩) g b (pI (c :: r)) ⟨(c.toNat : Int), xx, yy, zz, zV⟩) := by
          have hE := iend ⟨(c.toNat : Int), xx, yy, zz, zV⟩ hK2 hC2 hQ (Nat.le_refl _) (by omega) (by omega)
          show ToldI _ _ _ _ _
          rw [pI_cons, HO.out, if_pos rfl, HN.out, if_neg h1]
          rcases hcase with ⟨h2, rfl, rfl, rfl, rfl, rfl⟩ | ⟨h2, rfl, rfl⟩
          · rw [if_neg (by omega)]
            exact ⟨rfl, hE.2.1⟩
          · rw [if_pos h2]
            exact ⟨_, _, _, hE.2.1, rfl⟩
        have hE := iend ⟨(c.toNat : Int), xx, yy, zz, zV⟩ hK2 hC2 hQ (Nat.le_refl _) (by omega) (by omega)
        have hE1 := hE.1
        have HK := hide hE.2.2
        obtain ⟨d0, d1, d2, d3, d4, d5, d6⟩ := hQ.cs
        have f0 := hQ.fz 0; have f1 := hQ.fz 1; have f2 := hQ.fz 2; have f3 := hQ.fz 3; have f4 := hQ.fz 4; have f5 := hQ.fz 5; have f6 := hQ.fz 6
        clear hcase h1 hE hC2 hK2 hM
        go_wp2_with fail
        refine bodyPost_ret (results_ib rfl _ w.heap.size _ ⟨(c.toNat : Int), xx, yy, zz, zV⟩ rfl hE1) rfl ?_
        exact ⟨_, rfl, HE.out, HK.out⟩

theorem inst_any (g b : Nat) (c : UInt8) (r : List UInt8) (w : World) (h : Cd w g b (mkB (c :: r)) 0 0) (hs : (c :: r).length ≤ maxLen) (hG : Glob w) (hb0 : 0 < b) :
    Calls Tryd.prog 23 #[.pointer (some ⟨g, 0, none⟩)] w fun e w' => ∃ x : In, e = .returned x.val ∧ ToldI w' g b (pI (c :: r)) x ∧ Kp (two b g) w w' := by
  cases ho : opOk (c.toNat : Int) with
  | true => exact inst_good g b c r w h hs hG hb0 ho
  | false =>
    have e : pI (c :: r) = .error 4 := by rw [pI_cons, ho]; rfl
    rw [e]
    exact inst_bad g b c r w h hs hG hb0 ho

end Go.Proofs.YtohcpgoiclapjaaDoor
