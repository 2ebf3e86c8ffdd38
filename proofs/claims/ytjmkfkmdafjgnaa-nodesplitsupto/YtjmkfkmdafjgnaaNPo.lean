/- Contracts, over the turned program: the two parts of an inner node; copies. Conditions: those that each theorem states. -/
import Derived.Test.YtjmkfkmdafjgnaaNPn
namespace Go.Proofs.Ytjmkfkmdafjgnaa
open Go Go.RowKit
set_option linter.unusedVariables false

theorem Sl.dropI {α : Type} {f : α → Value} {B : Nat} {w : World} {b o c : Nat} {l : List α} (h : Sl f B w (.slice (some ⟨b, o, none⟩) l.length c) l) (m : Nat) (hm : m ≤ l.length) : Sl f B w (.slice (some ⟨b, o + m, none⟩) (l.length - m) (c - m)) (l.drop m) :=
  h.drop m hm (fun b' off _ e => by cases e; rfl)

theorem idx_facts (at_ i1 n m c c2 : Nat) (h1 : at_ + 1 = i1) (h2 : at_ + 1 < n) (h3 : m = n + 1) (h4 : n ≤ c) (h5 : m ≤ c2) (h6 : n ≤ 4194303) : IntKind.i64.wrap ((at_ : Int) + 1) = (i1 : Int) ∧ wrap64 ((at_ : Int) + 1) = (i1 : Int) ∧ (at_ : Int) < (n : Int) ∧ (at_ : Int) ≤ (n : Int) ∧ at_ ≤ n ∧ at_ ≤ c ∧ (at_ : Int) ≤ (c : Int) ∧ (i1 : Int) ≤ (n : Int) ∧ i1 ≤ n ∧ i1 ≤ c ∧ (i1 : Int) ≤ (c : Int) ∧ ¬ c = i1 ∧ (i1 : Int) ≤ (m : Int) ∧ i1 ≤ m ∧ i1 ≤ c2 ∧ (i1 : Int) ≤ (c2 : Int) ∧ ¬ c2 = i1 := by
  refine ⟨by rw [IntKind.wrap_i64]; omega, by unfold wrap64; omega, ?_⟩
  omega
theorem half_arg (n : Nat) (h : 3 ≤ n ∧ n ≤ 4194304) (M : Int) (hM : M = wrap64 ((n : Int) - 2) ∨ M = IntKind.i64.wrap ((n : Int) - 2) ∨ M = (n : Int) - 2) : M = ((n - 2 : Nat) : Int) := by
  rcases hM with h1 | h1 | h1
  · rw [h1]; unfold wrap64; omega
  · rw [h1, IntKind.wrap_i64]; omega
  · rw [h1]; omega

set_option maxRecDepth 100000 in
set_option maxHeartbeats 600000 in
theorem splitInner_any (v dv : Value) (ks : List ByteArray) (kd : List Int) (B : Nat) (w : World) (hS : Sl Value.string B w v ks) (hD : Sl (Value.int .i64) B w dv kd) (hB : B ≤ w.heap.size) (h3 : 3 ≤ ks.length) (hkl : kd.length = ks.length + 1) (hs : (ks.map kSize).sum ≤ 4194304) (hlen : ks.length ≤ 4194303) (at_ : Nat) (hA : splG (fun j => kSize (ks.getD j ⟨#[]⟩)) (ks.map kSize).sum (ks.length - 2) ks.length 1 (kSize (ks.getD 0 ⟨#[]⟩)) = at_) (hat : at_ + 1 < ks.length) (key : ByteArray) (hkey : ks[at_]'(by omega) = key) :
    Calls Try.prog 41 #[v, dv] w fun e w' => ∃ a m c a2 m2 c2 a' m' c' a2' m2' c2', e = .returned (.tuple #[.agg #[.bool false, .slice none 0 0, .slice a m c, .slice a2 m2 c2], .agg #[.bool false, .slice none 0 0, .slice a' m' c', .slice a2' m2' c2'], .string key]) ∧
      Ow Value.string 9 w' w.heap.size (.slice a m c) (ks.take at_) ∧ Ow (Value.int .i64) 3 w' w.heap.size (.slice a2 m2 c2) (kd.take (at_ + 1)) ∧ Ow Value.string 9 w' w.heap.size (.slice a' m' c') (ks.drop (at_ + 1)) ∧ Ow (Value.int .i64) 3 w' w.heap.size (.slice a2' m2' c2') (kd.drop (at_ + 1)) ∧ Kp none' w w' := by
  have hS' := hS
  have hD' := hD
  obtain ⟨a, c, rfl, hlc, hcm, ha⟩ := hS'
  obtain ⟨a2, c2, rfl, hlc2, hcm2, ha2⟩ := hD'
  unfold maxLen at hcm hcm2
  obtain ⟨b, o, rfl, hbB, hck⟩ := ha at_ (by omega)
  obtain ⟨b2, o2, rfl, hbB2, hx2⟩ := ha2 0 (by omega)
  clear hx2
  rw [hkey] at hck
  clear ha ha2
  have hK0 : Kp none' w ((w.alloc (.cells #[.bool false, .slice none 0 0, .slice none 0 0, .slice none 0 0] 26)).alloc (.cells #[.bool false, .slice none 0 0, .slice none 0 0, .slice none 0 0] 26)) := (Kp.alloc _ _ _).thenN (Kp.alloc _ _ _)
  have n4 := (Nb.new w false (.slice none 0 0) (.slice none 0 0) (.slice none 0 0)).kept (Kp.alloc none' _ (.cells #[.bool false, .slice none 0 0, .slice none 0 0, .slice none 0 0] 26)) (fun h => h)
  have n5 := Nb.new (w.alloc (.cells #[.bool false, .slice none 0 0, .slice none 0 0, .slice none 0 0] 26)) false (.slice none 0 0) (.slice none 0 0) (.slice none 0 0)
  rw [show (w.alloc (.cells #[.bool false, .slice none 0 0, .slice none 0 0, .slice none 0 0] 26)).heap.size = w.heap.size + 1 by simp] at n5
  have HH : Hid (∀ (W : World) (M : Int), Kp none' w W → M = ((ks.length - 2 : Nat) : Int) → Calls Try.prog 59 #[.slice (some ⟨b, o, none⟩) ks.length c, .int .i64 M, .func (.func 34) #[] #[]] W fun e w' => e = .returned (.int .i64 (at_ : Int)) ∧ Kp none' W w') := fun W M hk hM => halfK _ ks B W (hS.keptN hk) (by omega) hs (by omega) M hM at_ hA
  obtain ⟨i1, HI1⟩ : ∃ i1, Hid (at_ + 1 = i1) := ⟨_, rfl⟩
  obtain ⟨hi1, hi1w, q1, q2, q3, q4, q5, q6, q7, q8, q9, hnc, r6, r7, r8, r9, hnd⟩ := idx_facts at_ i1 ks.length kd.length c c2 HI1.out hat hkl hlc hlc2 hlen
  clear hi1w
  have HI1w := hide hi1
  clear hi1
  have hnc' : ¬ i1 = c := fun e => hnc e.symm
  have hnd' : ¬ i1 = c2 := fun e => hnd e.symm
  have HML : Hid (3 ≤ ks.length ∧ ks.length ≤ 4194304) := by show _ ∧ _; omega
  have HKL := hide hkl
  have HB1 : Hid (ks.length ≤ 100000000 ∧ kd.length ≤ 100000000) := by show _ ∧ _; omega
  rw [HI1.out]
  clear hkey
  clear hA hs h3 hkl hat hlen
  go_enter Try.func41, Try.ntmps41
  go_upto_region 1 with fail
  generalize (w.alloc (.cells #[.bool false, .slice none 0 0, .slice none 0 0, .slice none 0 0] 26)).alloc (.cells #[.bool false, .slice none 0 0, .slice none 0 0, .slice none 0 0] 26) = w0 at *
  go_upto_region 2 with (first
    | (go_at_call 59; refine (HH.out _ _ hK0 (half_arg _ HML.out _ (by first | exact .inl rfl | exact .inr (.inl rfl) | exact .inr (.inr rfl)))).mono ?_; rintro e w1 ⟨rfl, hK1⟩)
    | fail)
  replace n4 := n4.kept hK1 (fun h => h)
  replace n5 := n5.kept hK1 (fun h => h)
  have HLT : Hid (w.heap.size + 1 < w1.heap.size) := n5.lt
  have rk : ∀ W : World, Kp (fun k => w.heap.size ≤ k) w1 W → W.cell? ⟨b, o + at_, none⟩ = some (.string key) := fun W hk => hk.cell ((hK0.thenN hK1).cell hck (fun h => h)) (fun h => by omega)
  have HSW : Hid (∀ W : World, Kp (fun k => w.heap.size ≤ k) w1 W → Sl Value.string B W (.slice (some ⟨b, o, none⟩) ks.length c) ks) := fun W hk => (hS.keptN (hK0.thenN hK1)).kept hk (fun k hk' h => by omega)
  have HDW : Hid (∀ W : World, Kp (fun k => w.heap.size ≤ k) w1 W → Sl (Value.int .i64) B W (.slice (some ⟨b2, o2, none⟩) kd.length c2) kd) := fun W hk => (hD.keptN (hK0.thenN hK1)).kept hk (fun k hk' h => by omega)
  have HIA : Hid (∀ (W : World) (X Y : Value), X = .slice (some ⟨b, o, none⟩) at_ c → Y = .slice (some ⟨b2, o2, none⟩) i1 c2 → Kp (fun k => w.heap.size ≤ k) w1 W → Calls Try.prog 60 #[X, Y] W fun e w' => ∃ a m c a' m' c', e = .returned (.agg #[.bool false, .slice none 0 0, .slice a m c, .slice a' m' c']) ∧ Ow Value.string 9 w' W.heap.size (.slice a m c) (ks.take at_) ∧ Ow (Value.int .i64) 3 w' W.heap.size (.slice a' m' c') (kd.take i1) ∧ Kp none' W w') := by
    intro W X Y hX hY hk
    subst hX hY
    exact inner_any _ _ _ _ B W ((HSW.out W hk).take at_ q3) ((HDW.out W hk).take i1 r7) (by have := HB1.out; rw [List.length_take]; omega) (by have := HB1.out; rw [List.length_take]; omega)
  have HIB : Hid (∀ (W : World) (X Y : Value), X = .slice (some ⟨b, o + i1, none⟩) (ks.length - i1) (c - i1) → Y = .slice (some ⟨b2, o2 + i1, none⟩) (kd.length - i1) (c2 - i1) → Kp (fun k => w.heap.size ≤ k) w1 W → Calls Try.prog 60 #[X, Y] W fun e w' => ∃ a m c a' m' c', e = .returned (.agg #[.bool false, .slice none 0 0, .slice a m c, .slice a' m' c']) ∧ Ow Value.string 9 w' W.heap.size (.slice a m c) (ks.drop i1) ∧ Ow (Value.int .i64) 3 w' W.heap.size (.slice a' m' c') (kd.drop i1) ∧ Kp none' W w') := by
    intro W X Y hX hY hk
    subst hX hY
    exact inner_any _ _ _ _ B W ((HSW.out W hk).dropI i1 q7) ((HDW.out W hk).dropI i1 r7) (by have := HB1.out; rw [List.length_drop]; omega) (by have := HB1.out; rw [List.length_drop]; omega)
  clear hS hD hck HH hcm hlc hcm2 hlc2
  have hi1 := HI1w.out
  replace n4 := n4.kept (Kp.drew none' w1) (fun h => h)
  replace n5 := n5.kept (Kp.drew none' w1) (fun h => h)
  refine wp_region_held_drew (S := fun W => Kp (fun k => w.heap.size ≤ k) w1 W) (by kernel_rfl) (Kp.drew _ _) (fun hHeld => ?_)
  refine take_at (i := 0) (d := 13) (v := ?_) rfl rfl (by kernel_rfl) (by kernel_rfl) (by kernel_rfl) (fun _ _ _ h => h) (Or.inl ⟨by rfl, ?_⟩) (by assumption) ?_
  rotate_left
  · intro W hSW
    try dsimp only at hSW
    have gk := rk W hSW
    go_simp
    try with_reducible rfl
  try simp only [Act.put, List.setIfInBounds_toArray, List.set_cons_zero, List.set_cons_succ]
  refine take_at (i := 1) (d := 14) (v := ?_) rfl rfl (by kernel_rfl) (by kernel_rfl) (by kernel_rfl) (fun _ _ _ h => h) (Or.inl ⟨by rfl, ?_⟩) (by assumption) ?_
  rotate_left
  · intro W hSW
    try dsimp only at hSW
    have gk := rk W hSW
    go_simp
    try with_reducible rfl
  try simp only [Act.put, List.setIfInBounds_toArray, List.set_cons_zero, List.set_cons_succ]
  refine take_at (i := 2) (d := 15) (v := ?_) rfl rfl (by kernel_rfl) (by kernel_rfl) (by kernel_rfl) (fun _ _ _ h => h) (Or.inl ⟨by rfl, ?_⟩) (by assumption) ?_
  rotate_left
  · intro W hSW
    try dsimp only at hSW
    have gk := rk W hSW
    go_simp
    try with_reducible rfl
  try simp only [Act.put, List.setIfInBounds_toArray, List.set_cons_zero, List.set_cons_succ]
  refine take_at (i := 3) (d := 16) (v := ?_) rfl rfl (by kernel_rfl) (by kernel_rfl) (by kernel_rfl) (fun _ _ _ h => h) (Or.inl ⟨by rfl, ?_⟩) (by assumption) ?_
  rotate_left
  · intro W hSW
    try dsimp only at hSW
    have gk := rk W hSW
    go_simp
    try with_reducible rfl
  try simp only [Act.put, List.setIfInBounds_toArray, List.set_cons_zero, List.set_cons_succ]
  refine take_at (i := 4) (d := 17) (v := ?_) rfl rfl (by kernel_rfl) (by kernel_rfl) (by kernel_rfl) (fun _ _ _ h => h) (Or.inl ⟨by rfl, ?_⟩) (by assumption) ?_
  rotate_left
  · intro W hSW
    try dsimp only at hSW
    have gk := rk W hSW
    go_simp
    try with_reducible rfl
  try simp only [Act.put, List.setIfInBounds_toArray, List.set_cons_zero, List.set_cons_succ]
  refine take_at (i := 5) (d := 18) (v := ?_) rfl rfl (by kernel_rfl) (by kernel_rfl) (by kernel_rfl) (fun _ _ _ h => h) (Or.inl ⟨by rfl, ?_⟩) (by assumption) ?_
  rotate_left
  · intro W hSW
    try dsimp only at hSW
    have gk := rk W hSW
    go_simp
    try with_reducible rfl
  try simp only [Act.put, List.setIfInBounds_toArray, List.set_cons_zero, List.set_cons_succ]
  refine take_at (i := 6) (d := 19) (v := ?_) rfl rfl (by kernel_rfl) (by kernel_rfl) (by kernel_rfl) (fun _ _ _ h => h) (Or.inl ⟨by rfl, ?_⟩) (by assumption) ?_
  rotate_left
  · intro W hSW
    try dsimp only at hSW
    have gk := rk W hSW
    go_simp
    try with_reducible rfl
  try simp only [Act.put, List.setIfInBounds_toArray, List.set_cons_zero, List.set_cons_succ]
  refine take_at (i := 8) (d := 21) (v := ?_) rfl rfl (by kernel_rfl) (by kernel_rfl) (by kernel_rfl) (fun _ _ _ h => h) (Or.inl ⟨by rfl, ?_⟩) (by assumption) ?_
  rotate_left
  · intro W hSW
    try dsimp only at hSW
    have gk := rk W hSW
    go_simp
    try with_reducible rfl
  try simp only [Act.put, List.setIfInBounds_toArray, List.set_cons_zero, List.set_cons_succ]
  refine take_at (i := 9) (d := 22) (v := ?_) rfl rfl (by kernel_rfl) (by kernel_rfl) (by kernel_rfl) (fun _ _ _ h => h) (Or.inl ⟨by rfl, ?_⟩) (by assumption) ?_
  rotate_left
  · intro W hSW
    try dsimp only at hSW
    have gk := rk W hSW
    go_simp
    try with_reducible rfl
  try simp only [Act.put, List.setIfInBounds_toArray, List.set_cons_zero, List.set_cons_succ]
  refine take_at (i := 10) (d := 23) (v := ?_) rfl rfl (by kernel_rfl) (by kernel_rfl) (by kernel_rfl) (fun _ _ _ h => h) (Or.inl ⟨by rfl, ?_⟩) (by assumption) ?_
  rotate_left
  · intro W hSW
    try dsimp only at hSW
    have gk := rk W hSW
    go_simp
    try with_reducible rfl
  try simp only [Act.put, List.setIfInBounds_toArray, List.set_cons_zero, List.set_cons_succ]
  refine take_at (i := 11) (d := 24) (v := ?_) rfl rfl (by kernel_rfl) (by kernel_rfl) (by kernel_rfl) (fun _ _ _ h => h) (Or.inl ⟨by rfl, ?_⟩) (by assumption) ?_
  rotate_left
  · intro W hSW
    try dsimp only at hSW
    have gk := rk W hSW
    go_simp
    try with_reducible rfl
  try simp only [Act.put, List.setIfInBounds_toArray, List.set_cons_zero, List.set_cons_succ]
  refine take_at (i := 12) (d := 25) (v := ?_) rfl rfl (by kernel_rfl) (by kernel_rfl) (by kernel_rfl) (fun _ _ _ h => h) (Or.inl ⟨by rfl, ?_⟩) (by assumption) ?_
  rotate_left
  · intro W hSW
    try dsimp only at hSW
    have gk := rk W hSW
    go_simp
    try with_reducible rfl
  try simp only [Act.put, List.setIfInBounds_toArray, List.set_cons_zero, List.set_cons_succ]
  refine take_at (i := 13) (d := 26) (v := ?_) rfl rfl (by kernel_rfl) (by kernel_rfl) (by kernel_rfl) (fun _ _ _ h => h) (Or.inl ⟨by rfl, ?_⟩) (by assumption) ?_
  rotate_left
  · intro W hSW
    try dsimp only at hSW
    have gk := rk W hSW
    go_simp
    try with_reducible rfl
  try simp only [Act.put, List.setIfInBounds_toArray, List.set_cons_zero, List.set_cons_succ]
  refine take_at (i := 14) (d := 27) (v := ?_) rfl rfl (by kernel_rfl) (by kernel_rfl) (by kernel_rfl) (fun _ _ _ h => h) (Or.inl ⟨by rfl, ?_⟩) (by assumption) ?_
  rotate_left
  · intro W hSW
    try dsimp only at hSW
    have gk := rk W hSW
    go_simp
    try with_reducible rfl
  try simp only [Act.put, List.setIfInBounds_toArray, List.set_cons_zero, List.set_cons_succ]
  refine take_at (i := 15) (d := 28) (v := ?_) rfl rfl (by kernel_rfl) (by kernel_rfl) (by kernel_rfl) (fun _ _ _ h => h) (Or.inl ⟨by rfl, ?_⟩) (by assumption) ?_
  rotate_left
  · intro W hSW
    try dsimp only at hSW
    have gk := rk W hSW
    go_simp
    try with_reducible rfl
  try simp only [Act.put, List.setIfInBounds_toArray, List.set_cons_zero, List.set_cons_succ]
  refine take_at (i := 17) (d := 30) (v := ?_) rfl rfl (by kernel_rfl) (by kernel_rfl) (by kernel_rfl) (fun _ _ _ h => h) (Or.inl ⟨by rfl, ?_⟩) (by assumption) ?_
  rotate_left
  · intro W hSW
    try dsimp only at hSW
    have gk := rk W hSW
    go_simp
    try with_reducible rfl
  try simp only [Act.put, List.setIfInBounds_toArray, List.set_cons_zero, List.set_cons_succ]
  refine take_at (i := 18) (d := 31) (v := ?_) rfl rfl (by kernel_rfl) (by kernel_rfl) (by kernel_rfl) (fun _ _ _ h => h) (Or.inl ⟨by rfl, ?_⟩) (by assumption) ?_
  rotate_left
  · intro W hSW
    try dsimp only at hSW
    have gk := rk W hSW
    go_simp
    try with_reducible rfl
  try simp only [Act.put, List.setIfInBounds_toArray, List.set_cons_zero, List.set_cons_succ]
  refine take_at (i := 19) (d := 32) (v := ?_) rfl rfl (by kernel_rfl) (by kernel_rfl) (by kernel_rfl) (fun _ _ _ h => h) (Or.inl ⟨by rfl, ?_⟩) (by assumption) ?_
  rotate_left
  · intro W hSW
    try dsimp only at hSW
    have gk := rk W hSW
    go_simp
    try with_reducible rfl
  try simp only [Act.put, List.setIfInBounds_toArray, List.set_cons_zero, List.set_cons_succ]
  refine take_at (i := 20) (d := 33) (v := ?_) rfl rfl (by kernel_rfl) (by kernel_rfl) (by kernel_rfl) (fun _ _ _ h => h) (Or.inl ⟨by rfl, ?_⟩) (by assumption) ?_
  rotate_left
  · intro W hSW
    try dsimp only at hSW
    have gk := rk W hSW
    go_simp
    try with_reducible rfl
  try simp only [Act.put, List.setIfInBounds_toArray, List.set_cons_zero, List.set_cons_succ]
  refine wpAnyH_ready (rs := [7]) (by kernel_rfl) (by simp) ?_
  refine AllReadyH.cons rfl (fun K hK => ?_) ?_
  · go_simp
    go_wp2_with (go_at_call 60; refine (HIA.out _ _ _ (by first | with_reducible rfl | rw [if_neg hnc] | simp [hnc, hnd]) (by first | with_reducible rfl | rw [if_neg hnd] | simp [hnc, hnd]) hHeld).mono ?_; rintro e wx7 ⟨bA, mA, dA, bC, mC, dC, rfl, oA, pA, hk7⟩)
    replace oA := oA.mem hHeld.size
    replace pA := pA.mem hHeld.size
    replace n4 := n4.kept hk7 (fun h => h)
    replace n5 := n5.kept hk7 (fun h => h)
    refine hK.out _ _ (hHeld.thenN hk7) (fun hHeld => ?_)
    clear hK K
    try simp only [Act.put, List.setIfInBounds_toArray, List.set_cons_zero, List.set_cons_succ]
    refine wpAnyH_ready (rs := [16]) (by kernel_rfl) (by simp) ?_
    refine AllReadyH.cons rfl (fun K hK => ?_) ?_
    · go_simp
      go_wp2_with (go_at_call 60; refine (HIB.out _ _ _ (by first | with_reducible rfl | rw [if_neg hnc] | simp [hnc, hnd]) (by first | with_reducible rfl | rw [if_neg hnd] | simp [hnc, hnd]) hHeld).mono ?_; rintro e wx16 ⟨bB, mB, dB, bD, mD, dD, rfl, oB, pB, hk16⟩)
      replace oB := oB.mem hHeld.size
      replace pB := pB.mem hHeld.size
      replace oA := oA.keptN hk16
      replace pA := pA.keptN hk16
      replace n4 := n4.kept hk16 (fun h => h)
      replace n5 := n5.kept hk16 (fun h => h)
      refine hK.out _ _ (hHeld.thenN hk16) (fun hHeld => ?_)
      clear hK K
      try simp only [Act.put, List.setIfInBounds_toArray, List.set_cons_zero, List.set_cons_succ]
      refine wpAnyH_ready (rs := [21]) (by kernel_rfl) (by simp) ?_
      refine AllReadyH.cons rfl (fun K hK => ?_) ?_
      · refine nstep_store_nb (by rfl) (by rfl) (.tmp 4) (.tmp 20) (by rfl) w.heap.size (by rfl) (by rfl) n4 ?_
        clear n4
        intro wx21 n4 hk21
        replace n5 := nb_far n5 (by omega) hk21
        replace oA := oA.kept hk21 (fun z hz e => by have := (oA.lt z hz).1; have := HLT.out; unfold only at e; omega)
        replace pA := pA.kept hk21 (fun z hz e => by have := (pA.lt z hz).1; have := HLT.out; unfold only at e; omega)
        replace oB := oB.kept hk21 (fun z hz e => by have := (oB.lt z hz).1; have := HLT.out; unfold only at e; omega)
        replace pB := pB.kept hk21 (fun z hz e => by have := (pB.lt z hz).1; have := HLT.out; unfold only at e; omega)
        refine hK.out _ _ (hHeld.trans hk21 (fun _ _ h => h) (fun k _ e => by unfold only at e; show _ ≤ _; omega)) (fun hHeld => ?_)
        clear hK K
        try simp only [Act.put, List.setIfInBounds_toArray, List.set_cons_zero, List.set_cons_succ]
        refine wpAnyH_ready (rs := [22]) (by kernel_rfl) (by simp) ?_
        refine AllReadyH.cons rfl (fun K hK => ?_) ?_
        · refine nstep_store_nb (by rfl) (by rfl) (.tmp 5) (.tmp 29) (by rfl) (w.heap.size + 1) (by rfl) (by rfl) n5 ?_
          clear n5
          intro wx22 n5 hk22
          replace n4 := nb_far n4 (by omega) hk22
          replace oA := oA.kept hk22 (fun z hz e => by have := (oA.lt z hz).1; have := HLT.out; unfold only at e; omega)
          replace pA := pA.kept hk22 (fun z hz e => by have := (pA.lt z hz).1; have := HLT.out; unfold only at e; omega)
          replace oB := oB.kept hk22 (fun z hz e => by have := (oB.lt z hz).1; have := HLT.out; unfold only at e; omega)
          replace pB := pB.kept hk22 (fun z hz e => by have := (pB.lt z hz).1; have := HLT.out; unfold only at e; omega)
          refine hK.out _ _ (hHeld.trans hk22 (fun _ _ h => h) (fun k _ e => by unfold only at e; show _ ≤ _; omega)) (fun hHeld => ?_)
          clear hK K
          try simp only [Act.put, List.setIfInBounds_toArray, List.set_cons_zero, List.set_cons_succ]
          refine take_at (i := 23) (d := 6) (v := ?_) rfl rfl (by kernel_rfl) (by kernel_rfl) (by kernel_rfl) (fun _ _ _ h => h) (Or.inl ⟨by rfl, ?_⟩) (by assumption) ?_
          rotate_left
          · intro W hSW
            try dsimp only at hSW
            go_simp
            try with_reducible rfl
          try simp only [Act.put, List.setIfInBounds_toArray, List.set_cons_zero, List.set_cons_succ]
          refine wpAnyH_done (by kernel_rfl) ?_ _
          try go_wp2
          refine bodyPost_ret (results_nb2t rfl _ w.heap.size (w.heap.size + 1) _ (.string key) rfl rfl rfl n4 n5) rfl ?_
          exact ⟨_, _, _, _, _, _, _, _, _, _, _, _, rfl, oA.mem (by have := HLT.out; omega), pA.mem (by have := HLT.out; omega), oB.mem (by have := HLT.out; omega), pB.mem (by have := HLT.out; omega), (hK0.thenN hK1).trans hHeld (fun _ _ h => h) (fun k hk h => absurd hk (by have h' : w.heap.size ≤ k := h; omega))⟩
        exact AllReadyH.nil
      exact AllReadyH.nil
    exact AllReadyH.nil
  exact AllReadyH.nil

end Go.Proofs.Ytjmkfkmdafjgnaa
