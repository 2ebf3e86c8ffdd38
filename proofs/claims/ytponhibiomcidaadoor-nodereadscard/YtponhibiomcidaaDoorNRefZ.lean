/- Contracts, over the turned program: the document's Read, of an inner node, and of all. Conditions: those that each theorem states. -/
import Derived.Test.YtponhibiomcidaaDoorNRefY
namespace Go.Proofs.YtponhibiomcidaaDoor
open Go Go.RowKit
set_option linter.unusedVariables false

theorem Ow.ofShape {α : Type} {f : α → Value} {e : TypeId} {w : World} {base : Nat} {v : Value} {l : List α} (h : Ow f e w base v l) : ∃ a c, v = .slice a l.length c := by
  obtain ⟨a, c, h1, _⟩ := h.open
  exact ⟨a, c, h1⟩
theorem src_one' {P : Program} (w : World) (t e : TypeId) (ht : P.underlying t = some (.slice e)) (x : Value) (hx : x.oneCell' = true) (g : Nat) (hg : w.heap.size = g) : Src P 1 t (.slice (some ⟨g, 0, none⟩) 1 1) 1 [x] (w.alloc (.cells #[x] e)) := by
  subst hg
  refine Src.ofSlice (e' := e) _ ht ⟨w.heap.size, 0, none⟩ 1 1 [x] (by simp) ?_ (by intro u hu; simp at hu; subst hu; exact hx)
  intro j u hj
  match j, hj with
  | 0, hj => simp at hj; subst hj; simp [Addr.add]
  | (j + 1), hj => simp at hj

set_option maxRecDepth 100000 in
set_option maxHeartbeats 3000000 in
theorem rread9_inner (s : ByteArray) (w : World) (hs : s.size ≤ maxLen) (hk : xK s ≠ 1) : Calls Tryd.prog 6 #[.string s] w fun e w' => XRead s w w' e := by
  have hK0 : Kp none' w ((w.alloc (.cells #[.bool false, .slice none 0 0, .slice none 0 0, .slice none 0 0] 27)).alloc (.cells #[.string s, .int .i64 0, .int .i64 0] 47)) := (Kp.alloc _ _ _).thenN (Kp.alloc _ _ _)
  have n2 := (Nb.new w false (.slice none 0 0) (.slice none 0 0) (.slice none 0 0)).kept (Kp.alloc none' _ (.cells #[.string s, .int .i64 0, .int .i64 0] 47)) (fun h => h)
  have hR := Rfs.new (w.alloc (.cells #[.bool false, .slice none 0 0, .slice none 0 0, .slice none 0 0] 27)) s
  rw [show (w.alloc (.cells #[.bool false, .slice none 0 0, .slice none 0 0, .slice none 0 0] 27)).heap.size = w.heap.size + 1 by simp] at hR
  have Hs : Hid (s.size ≤ maxLen) := hs
  obtain ⟨N, HN⟩ : ∃ N, Hid (xN s = N) := ⟨_, rfl⟩
  have hN256 : N < 256 := by rw [← HN.out]; exact gNum1_lt _
  obtain ⟨r2, Hr2⟩ : ∃ q, Hid (xR2 s = q) := ⟨_, rfl⟩
  obtain ⟨r3, Hr3⟩ : ∃ q, Hid (xR3 s = q) := ⟨_, rfl⟩
  obtain ⟨kk, Hkk⟩ : ∃ q, Hid (xK s = q) := ⟨_, rfl⟩
  obtain ⟨D, HD⟩ : ∃ q, Hid (gNum r2 2 = q) := ⟨_, rfl⟩
  have hD65 : D < 65536 := by rw [← HD.out]; exact gNum_lt _
  have hkb : ((kk : Int) == 1) = false := by rw [← Hkk.out, beq_eq_false_iff_ne]; omega
  have HN1 : Hid (∀ (W : World) (b : Nat), Rfs W b s (s, 0) → Calls Tryd.prog 18 #[.pointer (some ⟨b, 0, none⟩), .int .i64 1] W fun y w' => y = .returned (.int .u64 (kk : Int)) ∧ Rfs w' b s (xR1 s) ∧ Kp (only b) W w') := by
    intro W b hW
    refine (xrnum b s _ 1 W hW Hs.out).mono ?_
    rintro y w' ⟨rfl, h1, h2⟩
    exact ⟨by rw [← Hkk.out]; rfl, h1, h2⟩
  have HN2 : Hid (∀ (W : World) (b : Nat), Rfs W b s (xR1 s) → Calls Tryd.prog 18 #[.pointer (some ⟨b, 0, none⟩), .int .i64 1] W fun y w' => y = .returned (.int .u64 (N : Int)) ∧ Rfs w' b s r2 ∧ Kp (only b) W w') := by
    intro W b hW
    refine (xrnum b s _ 1 W hW Hs.out).mono ?_
    rintro y w' ⟨rfl, h1, h2⟩
    exact ⟨by rw [← HN.out]; rfl, by rw [← Hr2.out]; exact h1, h2⟩
  have HN3 : Hid (∀ (W : World) (b : Nat), Rfs W b s r2 → Calls Tryd.prog 18 #[.pointer (some ⟨b, 0, none⟩), .int .i64 2] W fun y w' => y = .returned (.int .u64 (D : Int)) ∧ Rfs w' b s r3 ∧ Kp (only b) W w') := by
    intro W b hW
    refine (xrnum b s _ 2 W hW Hs.out).mono ?_
    rintro y w' ⟨rfl, h1, h2⟩
    exact ⟨by rw [HD.out], by rw [← Hr3.out]; unfold xR3; rw [Hr2.out]; exact h1, h2⟩
  have HEX : Hid (∀ j, j ≤ N → (j = N ∨ (xnS r3 j).2 ≠ 0) → readN s = if (xnS r3 j).2 = 0 ∧ (⟨false, [], xnK r3 j, (D : Int) :: xnD r3 j⟩ : Nd).writeE = 0 ∧ (⟨false, [], xnK r3 j, (D : Int) :: xnD r3 j⟩ : Nd).write = s then some ⟨false, [], xnK r3 j, (D : Int) :: xnD r3 j⟩ else none) := by
    intro j h1 h2
    have := xread_inner s j hk (by rw [HN.out]; exact h1) (by rw [HN.out, Hr3.out]; exact h2)
    unfold xInner at this
    rw [Hr2.out, Hr3.out, HD.out] at this
    exact this
  clear hs hk
  go_enter Tryd.func6, Tryd.ntmps6
  go_upto_region 2 with fail
  generalize (w.alloc (.cells #[.bool false, .slice none 0 0, .slice none 0 0, .slice none 0 0] 27)).alloc (.cells #[.string s, .int .i64 0, .int .i64 0] 47) = w0 at *
  go_upto_region 3 with (first
    | (go_at_call 18; refine (HN1.out _ _ hR).mono ?_; clear hR; rintro e w1 ⟨rfl, hR, hk1⟩)
    | fail)
  go_upto_region 4 with (first
    | (go_at_call 18; refine (HN2.out _ _ hR).mono ?_; clear hR; rintro e w2 ⟨rfl, hR, hk2⟩)
    | fail)
  replace hk1 := hk1.then hk2
  replace n2 := n2.kept hk1 (fun e => by unfold only at e; omega)
  have hK2 : Kp none' w w2 := kp_far hK0 (by omega) hk1
  have n7 := Nb.new w2 false (.slice none 0 0) (.slice none 0 0) (.slice none 0 0)
  have hKA : Kp none' w2 (w2.alloc (.cells #[.bool false, .slice none 0 0, .slice none 0 0, .slice none 0 0] 27)) := Kp.alloc _ _ _
  replace n2 := n2.kept hKA (fun h => h)
  replace hK2 := hK2.thenN hKA
  have HLT : Hid (w.heap.size + 1 < w2.heap.size) := hR.lt
  replace hR := hR.kept hKA (fun h => h)
  clear hKA hk1 hk2 hK0 HN1 HN2
  go_upto_region 5 with fail
  generalize w2.alloc (.cells #[.bool false, .slice none 0 0, .slice none 0 0, .slice none 0 0] 27) = w3 at *
  obtain ⟨g7, Hg7⟩ : ∃ q, Hid (w2.heap.size = q) := ⟨_, rfl⟩
  rw [Hg7.out] at n7 HLT ⊢
  have hDw : IntKind.i64.wrap (D : Int) = (D : Int) := by rw [IntKind.wrap_i64]; omega
  go_upto_region 14 with (first
    | (go_at_call 18; refine (HN3.out _ _ hR).mono ?_; clear hR; rintro e w4 ⟨rfl, hR, hk4⟩)
    | fail)
  replace n7 := n7.kept hk4 (fun e => by unfold only at e; have := HLT.out; omega)
  replace n2 := n2.kept hk4 (fun e => by unfold only at e; omega)
  replace hK2 := kp_far hK2 (by omega) hk4
  have hKA : Kp none' w4 (w4.alloc (.cells #[.int .i64 (D : Int)] 3)) := Kp.alloc _ _ _
  have c3 := n7.c3
  obtain ⟨v3, w5, hq3, hO3, hg3, hv3⟩ := appI (w4.alloc (.cells #[.int .i64 (D : Int)] 3)) (g7 + 1) (.slice none 0 0) (.slice (some ⟨w4.heap.size, 0, none⟩) 1 1) [] [(D : Int)] (Ow.nil _ _ _ _) (src_one' w4 25 3 Tryd.underlying25 _ rfl _ rfl) (Nat.le_trans n7.lt hKA.size) (by simp)
  have hk5 : Kp (fun k => g7 + 1 ≤ k) w4 w5 := hKA.nThen (Kp.ofGrown hg3 (fun k hk _ => by cases hk))
  replace n7 := n7.kept hk5 (fun e => by omega)
  replace n2 := n2.kept hk5 (fun e => by have := HLT.out; omega)
  replace hR := hR.kept hk5 (fun e => by have := HLT.out; omega)
  replace hK2 := hK2.trans hk5 (fun _ _ h => h) (fun z hz e => by have := HLT.out; omega)
  clear hk5 hKA hg3 hv3 hk4 HN3
  obtain ⟨a4, c4, e4⟩ := hO3.ofShape
  obtain ⟨n4, Hn4⟩ : ∃ m, Hid (([] ++ [(D : Int)] : List Int).length = m) := ⟨_, hide rfl⟩
  rw [Hn4.out] at e4
  subst e4
  have d3 := n7.c3
  have f3 := n7.fz 3
  have hst : Kp (only g7) w5 (w5.setCell ⟨g7, 3, none⟩ (.slice a4 n4 c4)) := Kp.setCell _ _ _ _ rfl
  have n7' := n7.set3 (.slice a4 n4 c4)
  replace n2 := n2.kept hst (fun e => by unfold only at e; have := HLT.out; omega)
  replace hR := hR.kept hst (fun e => by unfold only at e; have := HLT.out; omega)
  replace hO3 := hO3.kept hst (fun z hz e => by unfold only at e; have := (hO3.lt z hz).1; omega)
  replace hK2 := kp_far hK2 (by have := HLT.out; omega) hst
  clear hst n7
  go_upto_region 15 with (first
    | (at_builtin; refine nwpList_app_at rfl (.tmp 53) (.tmp 56) 25 25 rfl _ _ rfl rfl hq3 ?_)
    | fail)
  generalize w5.setCell ⟨g7, 3, none⟩ (.slice a4 n4 c4) = w6 at *
  clear c3 d3 f3 hq3
  go_wp2
  go_loopw [11, 12] (fun cc t wr => ∃ (j : Nat) (a : Option Addr) (m q : Nat) (a' : Option Addr) (m' q' : Nat), j ≤ N ∧ t = .int .u64 j ∧ Nb wr g7 false (.slice none 0 0) (.slice a m q) (.slice a' m' q') ∧ Ow Value.string 9 wr (g7 + 1) (.slice a m q) (xnK r3 j) ∧ Ow (Value.int .i64) 3 wr (g7 + 1) (.slice a' m' q') ((D : Int) :: xnD r3 j) ∧ Hid (a = none ∨ a' = none ∨ (Value.slice a m q).ownBlock ≠ (Value.slice a' m' q').ownBlock) ∧ Rfs wr (w.heap.size + 1) s (xnS r3 j) ∧ Nb wr w.heap.size false (.slice none 0 0) (.slice none 0 0) (.slice none 0 0) ∧ Kp none' w wr) (fun _ t _ => N - (intOf t).toNat)
  case atStart => exact ⟨0, _, _, _, _, _, _, Nat.zero_le _, rfl, n7', Ow.nil _ _ _ _, hO3, .inl rfl, hR, n2, hK2⟩
  case round =>
    clear n7' hR n2 hK2 hO3
    obtain ⟨j, a, m, q, a', m', q', hj, rfl, n7, hO, hI, HNE, hR, n2, hK⟩ := hrel
    have HX := HEX.out j hj
    by_cases hgo : j < N ∧ (xnS r3 j).2 = 0
    · obtain ⟨hlt, he0⟩ := hgo
      clear HX
      have hlt' : (j : Int) < (N : Int) := by omega
      have hc2 := hR.c2
      rw [he0] at hc2
      have HSn : Hid (xnS r3 (j + 1) = sNum (sStr (xnS r3 j) 255) 2 ∧ xnK r3 (j + 1) = xnK r3 j ++ [gStr (xnS r3 j) 255] ∧ xnD r3 (j + 1) = xnD r3 j ++ [(gNum (sStr (xnS r3 j) 255) 2 : Int)]) := ⟨rfl, rfl, rfl⟩
      have hpl : (xnK r3 j).length = j := xnK_len r3 j
      have hpd : (xnD r3 j).length = j := xnD_len r3 j
      obtain ⟨ss, Hss⟩ : ∃ q, Hid (xnS r3 j = q) := ⟨_, rfl⟩
      rw [Hss.out] at hR HSn
      obtain ⟨s1, Hs1⟩ : ∃ q, Hid (sStr ss 255 = q) := ⟨_, rfl⟩
      obtain ⟨s2, Hs2⟩ : ∃ q, Hid (sNum s1 2 = q) := ⟨_, rfl⟩
      obtain ⟨k1, Hk1⟩ : ∃ q, Hid (gStr ss 255 = q) := ⟨_, rfl⟩
      obtain ⟨v1, Hv1⟩ : ∃ q, Hid (gNum s1 2 = q) := ⟨_, rfl⟩
      rw [Hs1.out, Hs2.out, Hk1.out, Hv1.out] at HSn
      have hv65 : v1 < 65536 := by rw [← Hv1.out]; exact gNum_lt _
      have hvw : IntKind.i64.wrap (v1 : Int) = (v1 : Int) := by rw [IntKind.wrap_i64]; omega
      have HC1 : Hid (∀ (W : World), Rfs W (w.heap.size + 1) s ss → Calls Tryd.prog 19 #[.pointer (some ⟨w.heap.size + 1, 0, none⟩), .int .i64 255] W fun y w' => y = .returned (.string k1) ∧ Rfs w' (w.heap.size + 1) s s1 ∧ Kp (only (w.heap.size + 1)) W w') := by
        intro W hW
        have := xrstr _ s ss 255 W hW Hs.out
        rw [Hk1.out, Hs1.out] at this
        exact this
      have HC2 : Hid (∀ (W : World), Rfs W (w.heap.size + 1) s s1 → Calls Tryd.prog 18 #[.pointer (some ⟨w.heap.size + 1, 0, none⟩), .int .i64 2] W fun y w' => y = .returned (.int .u64 (v1 : Int)) ∧ Rfs w' (w.heap.size + 1) s s2 ∧ Kp (only (w.heap.size + 1)) W w') := by
        intro W hW
        have := xrnum _ s s1 2 W hW Hs.out
        rw [Hv1.out, Hs2.out] at this
        exact this
      clear he0
      go_upto_region 19 with (first
        | (go_at_call 19; refine (HC1.out _ hR).mono ?_; clear hR; rintro e w7 ⟨rfl, hR, hk7⟩)
        | fail)
      go_upto_region 20 with (first
        | (go_at_call 18; refine (HC2.out _ hR).mono ?_; clear hR; rintro e w8 ⟨rfl, hR, hk8⟩)
        | fail)
      replace hk7 := hk7.then hk8
      replace n7 := n7.kept hk7 (fun e => by unfold only at e; have := HLT.out; omega)
      replace n2 := n2.kept hk7 (fun e => by unfold only at e; omega)
      replace hO := hO.kept hk7 (fun z hz e => by unfold only at e; have := HLT.out; have := (hO.lt z hz).1; omega)
      replace hI := hI.kept hk7 (fun z hz e => by unfold only at e; have := HLT.out; have := (hI.lt z hz).1; omega)
      replace hK := kp_far hK (by omega) hk7
      clear hk7 hk8 hc2
      have hKA : Kp none' w8 (w8.alloc (.cells #[.string k1] 9)) := Kp.alloc _ _ _
      have c2 := n7.c2
      have HSZ8 : Hid (w8.heap.size < (w8.alloc (.cells #[.string k1] 9)).heap.size) := by show _ < _; simp
      obtain ⟨v4, w9, hq4, hO4, hg4, hv4⟩ := appS (w8.alloc (.cells #[.string k1] 9)) (g7 + 1) (.slice a m q) (.slice (some ⟨w8.heap.size, 0, none⟩) 1 1) (xnK r3 j) [k1] (hO.keptN hKA) (src_one' w8 24 9 Tryd.underlying24 _ rfl _ rfl) (Nat.le_trans n7.lt hKA.size) (by simp; omega)
      have HI2 : Hid (∀ z, (Value.slice a' m' q').ownBlock = some z → ¬ (Value.slice a m q).ownBlock = some z) := by
        intro z hz hz'
        rcases HNE.out with h | h | h
        · subst h; cases hz'
        · subst h; cases hz
        · exact h (by rw [hz, hz'])
      have hk9 : Kp (fun k => g7 + 1 ≤ k ∧ (Value.slice a m q).ownBlock = some k) w8 w9 := hKA.nThen (Kp.ofGrown hg4 (fun k hk _ => ⟨(hO.lt k hk).1, hk⟩))
      have HV4 : Hid (∀ z, v4.ownBlock = some z → ¬ (Value.slice a' m' q').ownBlock = some z) := by
        intro z hz hz'
        rcases hv4 with h | h
        · rw [h] at hz; exact HI2.out z hz' hz
        · rw [h] at hz
          have h2 := (hI.lt z hz').2
          have h3 := HSZ8.out
          have h1 := Option.some.inj hz
          omega
      replace n7 := n7.kept hk9 (fun e => by omega)
      replace n2 := n2.kept hk9 (fun e => by have := HLT.out; omega)
      replace hR := hR.kept hk9 (fun e => by have := HLT.out; omega)
      replace hI := hI.kept hk9 (fun z hz e => HI2.out z hz e.2)
      replace hK := hK.trans hk9 (fun _ _ h => h) (fun z hz e => by have := HLT.out; omega)
      clear hk9 hKA hg4 hv4 hO HSZ8 HI2 HNE
      obtain ⟨a4, c4, e4⟩ := hO4.ofShape
      obtain ⟨n4, Hn4⟩ : ∃ m, Hid ((xnK r3 j ++ [k1]).length = m) := ⟨_, rfl⟩
      rw [Hn4.out] at e4
      subst e4
      have d1 := n7.c2
      have f1 := n7.fz 2
      have hst : Kp (only g7) w9 (w9.setCell ⟨g7, 2, none⟩ (.slice a4 n4 c4)) := Kp.setCell _ _ _ _ rfl
      have n7' := n7.set2 (.slice a4 n4 c4)
      replace n2 := n2.kept hst (fun e => by unfold only at e; have := HLT.out; omega)
      replace hR := hR.kept hst (fun e => by unfold only at e; have := HLT.out; omega)
      replace hO4 := hO4.kept hst (fun z hz e => by unfold only at e; have := (hO4.lt z hz).1; omega)
      replace hI := hI.kept hst (fun z hz e => by unfold only at e; have := (hI.lt z hz).1; omega)
      replace hK := kp_far hK (by have := HLT.out; omega) hst
      clear hst n7
      go_upto_region 21 with (first
        | (at_builtin; refine nwpList_app_at rfl (.tmp 76) (.tmp 78) 24 24 rfl _ _ rfl rfl hq4 ?_)
        | fail)
      generalize w9.setCell ⟨g7, 2, none⟩ (.slice a4 n4 c4) = w10 at *
      clear c2 d1 f1 hq4
      have hKA : Kp none' w10 (w10.alloc (.cells #[.int .i64 (v1 : Int)] 3)) := Kp.alloc _ _ _
      have c3 := n7'.c3
      have HSZ8 : Hid (w10.heap.size < (w10.alloc (.cells #[.int .i64 (v1 : Int)] 3)).heap.size) := by show _ < _; simp
      obtain ⟨v5, w11, hq5, hO5, hg5, hv5⟩ := appI (w10.alloc (.cells #[.int .i64 (v1 : Int)] 3)) (g7 + 1) (.slice a' m' q') (.slice (some ⟨w10.heap.size, 0, none⟩) 1 1) ((D : Int) :: xnD r3 j) [(v1 : Int)] (hI.keptN hKA) (src_one' w10 25 3 Tryd.underlying25 _ rfl _ rfl) (Nat.le_trans n7'.lt hKA.size) (by simp; omega)
      have hk11 : Kp (fun k => g7 + 1 ≤ k ∧ (Value.slice a' m' q').ownBlock = some k) w10 w11 := hKA.nThen (Kp.ofGrown hg5 (fun k hk _ => ⟨(hI.lt k hk).1, hk⟩))
      have HV5 : Hid (∀ z, v5.ownBlock = some z → ¬ (Value.slice a4 n4 c4).ownBlock = some z) := by
        intro z hz hz'
        rcases hv5 with h | h
        · rw [h] at hz; exact HV4.out z hz' hz
        · rw [h] at hz
          have h2 := (hO4.lt z hz').2
          have h3 := HSZ8.out
          have h1 := Option.some.inj hz
          omega
      replace n7' := n7'.kept hk11 (fun e => by omega)
      replace n2 := n2.kept hk11 (fun e => by have := HLT.out; omega)
      replace hR := hR.kept hk11 (fun e => by have := HLT.out; omega)
      replace hO4 := hO4.kept hk11 (fun z hz e => HV4.out z hz e.2)
      replace hK := hK.trans hk11 (fun _ _ h => h) (fun z hz e => by have := HLT.out; omega)
      clear hk11 hKA hg5 hv5 hI HSZ8 HV4
      obtain ⟨a5, c5, e5⟩ := hO5.ofShape
      obtain ⟨n5, Hn5⟩ : ∃ m, Hid (((D : Int) :: xnD r3 j ++ [(v1 : Int)]).length = m) := ⟨_, rfl⟩
      rw [Hn5.out] at e5
      subst e5
      have d3 := n7'.c3
      have f3 := n7'.fz 3
      have hst : Kp (only g7) w11 (w11.setCell ⟨g7, 3, none⟩ (.slice a5 n5 c5)) := Kp.setCell _ _ _ _ rfl
      have n7 := n7'.set3 (.slice a5 n5 c5)
      replace n2 := n2.kept hst (fun e => by unfold only at e; have := HLT.out; omega)
      replace hR := hR.kept hst (fun e => by unfold only at e; have := HLT.out; omega)
      replace hO4 := hO4.kept hst (fun z hz e => by unfold only at e; have := (hO4.lt z hz).1; omega)
      replace hO5 := hO5.kept hst (fun z hz e => by unfold only at e; have := (hO5.lt z hz).1; omega)
      replace hK := kp_far hK (by have := HLT.out; omega) hst
      have HNE2 : Hid (a4 = none ∨ a5 = none ∨ (Value.slice a4 n4 c4).ownBlock ≠ (Value.slice a5 n5 c5).ownBlock) := by
        cases a5 with
        | none => exact .inr (.inl rfl)
        | some x =>
          refine .inr (.inr (fun h => ?_))
          exact HV5.out _ rfl h
      clear hst n7' HV5
      go_wp2_with (at_builtin; refine nwpList_app_at rfl (.tmp 82) (.tmp 85) 25 25 rfl _ _ rfl rfl hq5 ?_)
      go_roundw
      case rel => exact ⟨j + 1, _, _, _, _, _, _, by omega, by go_num, n7, by rw [HSn.out.2.1]; exact hO4, by rw [HSn.out.2.2]; exact hO5, HNE2, by rw [HSn.out.1]; exact hR, n2, hK⟩
      case measure => simp [intOf]; omega
    · have hx : j = N ∨ (xnS r3 j).2 ≠ 0 := by
        rcases Nat.lt_or_ge j N with h | h
        · exact .inr (fun h0 => hgo ⟨h, h0⟩)
        · exact .inl (by omega)
      replace HX := hide (HX hx)
      have HWF : Hid ((⟨false, [], xnK r3 j, (D : Int) :: xnD r3 j⟩ : Nd).wf) := ⟨by simp, fun p hp => by have := xnK_mem r3 j p hp; unfold maxLen; omega, fun d hd => by rcases List.mem_cons.1 hd with rfl | hd; omega; have := xnD_mem r3 j d hd; omega⟩
      have hpl : (xnK r3 j).length = j := xnK_len r3 j
      have hNV : Nv wr.heap.size wr (.agg #[.bool false, .slice none 0 0, .slice a m q, .slice a' m' q']) ⟨false, [], xnK r3 j, (D : Int) :: xnD r3 j⟩ := ⟨⟨_, _, _, rfl, Prs.nil _ _, hO.sl, hI.sl⟩, HWF.out⟩
      have hpl' : (⟨false, [], xnK r3 j, (D : Int) :: xnD r3 j⟩ : Nd).ps.length ≤ 1099511627776 := by show ([] : List Pr).length ≤ _; simp
      have hkl' : (⟨false, [], xnK r3 j, (D : Int) :: xnD r3 j⟩ : Nd).ks.length ≤ 1099511627776 := by show (xnK r3 j).length ≤ _; omega
      obtain ⟨out, Hout⟩ : ∃ z : Nd, Hid ((⟨false, [], xnK r3 j, (D : Int) :: xnD r3 j⟩ : Nd) = z) := ⟨_, rfl⟩
      rw [Hout.out] at hNV HX hpl' hkl'
      have hc2 := hR.c2
      obtain ⟨E, HE⟩ : ∃ z, Hid ((xnS r3 j).2 = z) := ⟨_, rfl⟩
      rw [HE.out] at hc2 HX hx
      have hcond : ((j : Int) < (N : Int) ∧ (E == 0) = false) ∨ ¬ (j : Int) < (N : Int) := by
        rcases hx with h | h
        · exact .inr (by omega)
        · rcases Nat.lt_or_ge j N with h' | h'
          · exact .inl ⟨by omega, by simp [h]⟩
          · exact .inr (by omega)
      have d0 := n7.c0
      have d1 := n7.c1
      have d2 := n7.c2
      have d3 := n7.c3
      obtain ⟨T, HT⟩ : ∃ z, Hid (out.write = z) := ⟨_, rfl⟩
      obtain ⟨F, HF⟩ : ∃ z, Hid (out.writeE = z) := ⟨_, rfl⟩
      rw [HT.out, HF.out] at HX
      have HWr : Hid (∀ W : World, Nv W.heap.size W (.agg #[.bool false, .slice none 0 0, .slice a m q, .slice a' m' q']) out → Calls Tryd.prog 20 #[.agg #[.bool false, .slice none 0 0, .slice a m q, .slice a' m' q']] W fun e w' => e = .returned (.tuple #[.string T, .int .i64 F]) ∧ Kp none' W w') := by
        intro W h
        have := rwrite9_any _ out W.heap.size W h (Nat.le_refl _) hpl' hkl'
        rw [HT.out, HF.out] at this
        exact this
      clear hpl' hkl' hgo hx HEX hR hpl HE HT HF
      rcases hcond with ⟨t1, t2⟩ | t1
      all_goals
        go_upto_region 23 with (first
          | (go_at_call 20; refine (HWr.out _ hNV).mono ?_; rintro e w8 ⟨rfl, hk8⟩)
          | fail)
        replace hc2 := hk8.cell hc2 (fun h => h)
        replace d0 := hk8.cell d0 (fun h => h)
        replace d1 := hk8.cell d1 (fun h => h)
        replace d2 := hk8.cell d2 (fun h => h)
        replace d3 := hk8.cell d3 (fun h => h)
        replace n2 := n2.kept hk8 (fun h => h)
        replace hNV := hNV.keptN hk8
        replace hK := hK.thenN hk8
        have HNV : Hid (∀ W : World, Kp (only w.heap.size) w8 W → Nv W.heap.size W (.agg #[.bool false, .slice none 0 0, .slice a m q, .slice a' m' q']) out) := by
          intro W hk
          rw [← Hout.out]
          exact ⟨⟨_, _, _, rfl, Prs.nil _ _, ((hO.keptN hk8).kept hk (fun z hz e => by have := (hO.lt z hz).1; have := HLT.out; unfold only at e; omega)).sl, ((hI.keptN hk8).kept hk (fun z hz e => by have := (hI.lt z hz).1; have := HLT.out; unfold only at e; omega)).sl⟩, HWF.out⟩
        clear hk8 hNV HWr n7 hO hI
        by_cases hE : E = 0
        · have hE' : (E != 0) = false := by simp [hE]
          by_cases hF : F = 0
          · have hF' : (F != 0) = false := by simp [hF]
            by_cases hT : T = s
            · have hT' : (T.toList == s.toList) = true := by rw [textEq]; simp [hT]
              have HG : Hid (readN s = some out) := by show _ = _; rw [HX.out, if_pos ⟨hE, hF, hT⟩]
              clear hE hF hT HX
              go_wp2_with (first
                | (refine xwpList_store_nb rfl rfl (.tmp 2) (.tmp 108) rfl w.heap.size rfl rfl n2 ?_; clear n2; intro w9 n2 hk9)
                | fail)
              refine bodyPost_ret (results_nb1u rfl _ w.heap.size _ _ rfl rfl n2) rfl ?_
              unfold XRead
              rw [HG.out]
              exact ⟨_, rfl, HNV.out _ hk9, kp_far hK (Nat.le_refl _) hk9⟩
            · have hT' : (T.toList == s.toList) = false := by rw [textEq]; simp [hT]
              have HG : Hid (readN s = none) := by show _ = _; rw [HX.out, if_neg (fun h => hT h.2.2)]
              clear hE hF hT HX
              go_wp2_with (first
                | (refine xwpList_store_nb rfl rfl (.tmp 2) (.tmp 107) rfl w.heap.size rfl rfl n2 ?_; clear n2; intro w9 n2 hk9)
                | fail)
              refine bodyPost_ret (results_nb1u rfl _ w.heap.size _ _ rfl rfl n2) rfl ?_
              unfold XRead
              rw [HG.out]
              exact ⟨_, rfl, xnone _, kp_far hK (Nat.le_refl _) hk9⟩
          · have hF' : (F != 0) = true := by simp [hF]
            have HG : Hid (readN s = none) := by show _ = _; rw [HX.out, if_neg (fun h => hF h.2.1)]
            clear hE hF HX
            go_wp2_with (first
              | (refine xwpList_store_nb rfl rfl (.tmp 2) (.tmp 107) rfl w.heap.size rfl rfl n2 ?_; clear n2; intro w9 n2 hk9)
              | fail)
            refine bodyPost_ret (results_nb1u rfl _ w.heap.size _ _ rfl rfl n2) rfl ?_
            unfold XRead
            rw [HG.out]
            exact ⟨_, rfl, xnone _, kp_far hK (Nat.le_refl _) hk9⟩
        · have hE' : (E != 0) = true := by simp [hE]
          have HG : Hid (readN s = none) := by show _ = _; rw [HX.out, if_neg (fun h => hE h.1)]
          clear hE HX
          go_wp2_with (first
            | (refine xwpList_store_nb rfl rfl (.tmp 2) (.tmp 107) rfl w.heap.size rfl rfl n2 ?_; clear n2; intro w9 n2 hk9)
            | fail)
          refine bodyPost_ret (results_nb1u rfl _ w.heap.size _ _ rfl rfl n2) rfl ?_
          unfold XRead
          rw [HG.out]
          exact ⟨_, rfl, xnone _, kp_far hK (Nat.le_refl _) hk9⟩
theorem rread9_any (s : ByteArray) (w : World) (hs : s.size ≤ maxLen) : Calls Tryd.prog 6 #[.string s] w fun e w' => XRead s w w' e := by
  by_cases hk : xK s = 1
  · exact rread9_leaf s w hs hk
  · exact rread9_inner s w hs hk

end Go.Proofs.YtponhibiomcidaaDoor
