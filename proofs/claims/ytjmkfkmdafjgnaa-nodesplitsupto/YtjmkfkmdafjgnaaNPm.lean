/- Contracts, over the turned program: the two parts of a leaf. Conditions: those that each theorem states. -/
import Derived.Test.YtjmkfkmdafjgnaaNPk
import Derived.Test.YtjmkfkmdafjgnaaNOrd2
namespace Go.Proofs.Ytjmkfkmdafjgnaa
open Go Go.RowKit
set_option linter.unusedVariables false

set_option maxRecDepth 100000 in
set_option maxHeartbeats 2000000 in
theorem splitLeaf_any (v : Value) (ps : List Pr) (B : Nat) (w : World) (hP : Prs B w v ps) (hB : B ≤ w.heap.size) (h2 : 2 ≤ ps.length) (hs : (ps.map Pr.size).sum ≤ 4194304) (hlen : ps.length ≤ 4194304) (at_ : Nat) (hA : splG (fun j => Pr.size (ps.getD j ⟨⟨#[]⟩, ⟨#[]⟩⟩)) (ps.map Pr.size).sum (ps.length - 1) ps.length 1 (Pr.size (ps.getD 0 ⟨⟨#[]⟩, ⟨#[]⟩⟩)) = at_) (hat : at_ < ps.length) (key : ByteArray) (hkey : ps[at_].k = key) :
    Calls Try.prog 40 #[v] w fun e w' => ∃ a m c a' m' c', e = .returned (.tuple #[.agg #[.bool true, .slice a m c, .slice none 0 0, .slice none 0 0], .agg #[.bool true, .slice a' m' c', .slice none 0 0, .slice none 0 0], .string key]) ∧ OwP w' w.heap.size (.slice a m c) (ps.take at_) ∧ OwP w' w.heap.size (.slice a' m' c') (ps.drop at_) ∧ Kp none' w w' := by
  have hP' := hP
  obtain ⟨a, c, rfl, hlc, hcm, ha⟩ := hP'
  unfold maxLen at hcm
  obtain ⟨b, o, rfl, hbB, hck, _⟩ := ha at_ hat
  rw [hkey] at hck
  clear ha
  have hK0 : Kp none' w ((w.alloc (.cells #[.bool false, .slice none 0 0, .slice none 0 0, .slice none 0 0] 26)).alloc (.cells #[.bool false, .slice none 0 0, .slice none 0 0, .slice none 0 0] 26)) := (Kp.alloc _ _ _).thenN (Kp.alloc _ _ _)
  have n2 := (Nb.new w false (.slice none 0 0) (.slice none 0 0) (.slice none 0 0)).kept (Kp.alloc none' _ (.cells #[.bool false, .slice none 0 0, .slice none 0 0, .slice none 0 0] 26)) (fun h => h)
  have n3 := Nb.new (w.alloc (.cells #[.bool false, .slice none 0 0, .slice none 0 0, .slice none 0 0] 26)) false (.slice none 0 0) (.slice none 0 0) (.slice none 0 0)
  rw [show (w.alloc (.cells #[.bool false, .slice none 0 0, .slice none 0 0, .slice none 0 0] 26)).heap.size = w.heap.size + 1 by simp] at n3
  have HH : Hid (∀ (W : World) (M : Int), Kp none' w W → M = ((ps.length - 1 : Nat) : Int) → Calls Try.prog 58 #[.slice (some ⟨b, o, none⟩) ps.length c, .int .i64 M, .func (.func 32) #[] #[]] W fun e w' => e = .returned (.int .i64 (at_ : Int)) ∧ Kp none' W w') := fun W M hk hM => halfP _ ps B W (hP.keptN hk) (by omega) hs hlen M hM at_ hA
  have hai : (at_ : Int) ≤ (ps.length : Int) := by omega
  have hal : (at_ : Int) < (ps.length : Int) := by omega
  have han : at_ ≤ ps.length := by omega
  have hac : at_ ≤ c := by omega
  have hac' : (at_ : Int) ≤ (c : Int) := by omega
  have hne : ¬ at_ = c := by omega
  have hnc : ¬ c = at_ := by omega
  have HML : Hid (1 ≤ ps.length ∧ ps.length ≤ 4194304) := by show _ ∧ _; omega
  clear hA hs h2
  go_enter Try.func40, Try.ntmps40
  go_upto_region 1 with fail
  generalize (w.alloc (.cells #[.bool false, .slice none 0 0, .slice none 0 0, .slice none 0 0] 26)).alloc (.cells #[.bool false, .slice none 0 0, .slice none 0 0, .slice none 0 0] 26) = w0 at *
  go_upto_region 2 with (first
    | (go_at_call 58; refine (HH.out _ _ hK0 (by have := HML.out; first | (unfold wrap64; omega) | (rw [IntKind.wrap_i64]; omega) | omega)).mono ?_; rintro e w1 ⟨rfl, hK1⟩)
    | fail)
  replace n2 := n2.kept hK1 (fun h => h)
  replace n3 := n3.kept hK1 (fun h => h)
  have HLT : Hid (w.heap.size + 1 < w1.heap.size) := n3.lt
  have rk : ∀ W : World, Kp (fun k => w.heap.size ≤ k) w1 W → W.cell? ⟨b, o + at_ * 2, none⟩ = some (.string key) := fun W hk => hk.cell ((hK0.thenN hK1).cell hck (fun h => h)) (fun h => by omega)
  have HPW : Hid (∀ W : World, Kp (fun k => w.heap.size ≤ k) w1 W → Prs B W (.slice (some ⟨b, o, none⟩) ps.length c) ps) := fun W hk => (hP.keptN (hK0.thenN hK1)).kept hk (fun k hk' h => by omega)
  have HLA : Hid (∀ (W : World) (g : Nat), Kp (fun k => w.heap.size ≤ k) w1 W → Sl (fun x : Value => x) (g + 1) W (.slice (some ⟨g, 0, none⟩) 1 1) [.slice (some ⟨b, o, none⟩) at_ c] → Calls Try.prog 38 #[.slice (some ⟨g, 0, none⟩) 1 1] W fun e w' => ∃ a m c, e = .returned (.agg #[.bool true, .slice a m c, .slice none 0 0, .slice none 0 0]) ∧ OwP w' W.heap.size (.slice a m c) (ps.take at_) ∧ Kp none' W w') := by
    intro W g hk hV
    refine (leaf_any _ [_] [ps.take at_] (g + 1) B W hV rfl ?_ (by simp; omega)).mono ?_
    · intro i h h'
      match i, h with
      | 0, _ => exact (HPW.out W hk).take at_ han
    · rintro e w' ⟨a', c', rfl, hO, hK⟩
      simp only [List.flatten_cons, List.flatten_nil, List.append_nil] at hO ⊢
      exact ⟨_, _, _, rfl, hO, hK⟩
  have HLB : Hid (∀ (W : World) (g : Nat), Kp (fun k => w.heap.size ≤ k) w1 W → Sl (fun x : Value => x) (g + 1) W (.slice (some ⟨g, 0, none⟩) 1 1) [.slice (some ⟨b, o + at_ * 2, none⟩) (ps.length - at_) (c - at_)] → Calls Try.prog 38 #[.slice (some ⟨g, 0, none⟩) 1 1] W fun e w' => ∃ a m c, e = .returned (.agg #[.bool true, .slice a m c, .slice none 0 0, .slice none 0 0]) ∧ OwP w' W.heap.size (.slice a m c) (ps.drop at_) ∧ Kp none' W w') := by
    intro W g hk hV
    refine (leaf_any _ [_] [ps.drop at_] (g + 1) B W hV rfl ?_ (by simp; omega)).mono ?_
    · intro i h h'
      match i, h with
      | 0, _ =>
        have := (HPW.out W hk).dropM at_ han
        simpa [addr_plainN] using this
    · rintro e w' ⟨a', c', rfl, hO, hK⟩
      simp only [List.flatten_cons, List.flatten_nil, List.append_nil] at hO ⊢
      exact ⟨_, _, _, rfl, hO, hK⟩
  clear hP hck HH hcm hlc hlen hkey
  replace n2 := n2.kept (Kp.drew none' w1) (fun h => h)
  replace n3 := n3.kept (Kp.drew none' w1) (fun h => h)
  refine wp_region_held_drew (S := fun W => Kp (fun k => w.heap.size ≤ k) w1 W) (by kernel_rfl) (Kp.drew _ _) (fun hHeld => ?_)
  refine take_at (i := 0) (d := 11) (v := ?_) rfl rfl (by kernel_rfl) (by kernel_rfl) (by kernel_rfl) (fun _ _ _ h => h) (Or.inl ⟨by rfl, ?_⟩) (by assumption) ?_
  rotate_left
  · intro W hSW
    try dsimp only at hSW
    have gk := rk W hSW
    go_simp
    try with_reducible rfl
  try simp only [Act.put, List.setIfInBounds_toArray, List.set_cons_zero, List.set_cons_succ]
  refine take_at (i := 1) (d := 12) (v := ?_) rfl rfl (by kernel_rfl) (by kernel_rfl) (by kernel_rfl) (fun _ _ _ h => h) (Or.inl ⟨by rfl, ?_⟩) (by assumption) ?_
  rotate_left
  · intro W hSW
    try dsimp only at hSW
    have gk := rk W hSW
    go_simp
    try with_reducible rfl
  try simp only [Act.put, List.setIfInBounds_toArray, List.set_cons_zero, List.set_cons_succ]
  refine take_at (i := 2) (d := 13) (v := ?_) rfl rfl (by kernel_rfl) (by kernel_rfl) (by kernel_rfl) (fun _ _ _ h => h) (Or.inl ⟨by rfl, ?_⟩) (by assumption) ?_
  rotate_left
  · intro W hSW
    try dsimp only at hSW
    have gk := rk W hSW
    go_simp
    try with_reducible rfl
  try simp only [Act.put, List.setIfInBounds_toArray, List.set_cons_zero, List.set_cons_succ]
  refine take_at (i := 5) (d := 16) (v := ?_) rfl rfl (by kernel_rfl) (by kernel_rfl) (by kernel_rfl) (fun _ _ _ h => h) (Or.inl ⟨by rfl, ?_⟩) (by assumption) ?_
  rotate_left
  · intro W hSW
    try dsimp only at hSW
    have gk := rk W hSW
    go_simp
    try with_reducible rfl
  try simp only [Act.put, List.setIfInBounds_toArray, List.set_cons_zero, List.set_cons_succ]
  refine take_at (i := 6) (d := 17) (v := ?_) rfl rfl (by kernel_rfl) (by kernel_rfl) (by kernel_rfl) (fun _ _ _ h => h) (Or.inl ⟨by rfl, ?_⟩) (by assumption) ?_
  rotate_left
  · intro W hSW
    try dsimp only at hSW
    have gk := rk W hSW
    go_simp
    try with_reducible rfl
  try simp only [Act.put, List.setIfInBounds_toArray, List.set_cons_zero, List.set_cons_succ]
  refine take_at (i := 7) (d := 18) (v := ?_) rfl rfl (by kernel_rfl) (by kernel_rfl) (by kernel_rfl) (fun _ _ _ h => h) (Or.inl ⟨by rfl, ?_⟩) (by assumption) ?_
  rotate_left
  · intro W hSW
    try dsimp only at hSW
    have gk := rk W hSW
    go_simp
    try with_reducible rfl
  try simp only [Act.put, List.setIfInBounds_toArray, List.set_cons_zero, List.set_cons_succ]
  refine take_at (i := 10) (d := 21) (v := ?_) rfl rfl (by kernel_rfl) (by kernel_rfl) (by kernel_rfl) (fun _ _ _ h => h) (Or.inl ⟨by rfl, ?_⟩) (by assumption) ?_
  rotate_left
  · intro W hSW
    try dsimp only at hSW
    have gk := rk W hSW
    go_simp
    try with_reducible rfl
  try simp only [Act.put, List.setIfInBounds_toArray, List.set_cons_zero, List.set_cons_succ]
  refine take_at (i := 11) (d := 22) (v := ?_) rfl rfl (by kernel_rfl) (by kernel_rfl) (by kernel_rfl) (fun _ _ _ h => h) (Or.inl ⟨by rfl, ?_⟩) (by assumption) ?_
  rotate_left
  · intro W hSW
    try dsimp only at hSW
    have gk := rk W hSW
    go_simp
    try with_reducible rfl
  try simp only [Act.put, List.setIfInBounds_toArray, List.set_cons_zero, List.set_cons_succ]
  refine take_at (i := 12) (d := 23) (v := ?_) rfl rfl (by kernel_rfl) (by kernel_rfl) (by kernel_rfl) (fun _ _ _ h => h) (Or.inl ⟨by rfl, ?_⟩) (by assumption) ?_
  rotate_left
  · intro W hSW
    try dsimp only at hSW
    have gk := rk W hSW
    go_simp
    try with_reducible rfl
  try simp only [Act.put, List.setIfInBounds_toArray, List.set_cons_zero, List.set_cons_succ]
  refine take_at (i := 13) (d := 24) (v := ?_) rfl rfl (by kernel_rfl) (by kernel_rfl) (by kernel_rfl) (fun _ _ _ h => h) (Or.inl ⟨by rfl, ?_⟩) (by assumption) ?_
  rotate_left
  · intro W hSW
    try dsimp only at hSW
    have gk := rk W hSW
    go_simp
    try with_reducible rfl
  try simp only [Act.put, List.setIfInBounds_toArray, List.set_cons_zero, List.set_cons_succ]
  refine take_at (i := 14) (d := 25) (v := ?_) rfl rfl (by kernel_rfl) (by kernel_rfl) (by kernel_rfl) (fun _ _ _ h => h) (Or.inl ⟨by rfl, ?_⟩) (by assumption) ?_
  rotate_left
  · intro W hSW
    try dsimp only at hSW
    have gk := rk W hSW
    go_simp
    try with_reducible rfl
  try simp only [Act.put, List.setIfInBounds_toArray, List.set_cons_zero, List.set_cons_succ]
  refine wpAnyH_ready (rs := [3, 8]) (by kernel_rfl) (by simp) ?_
  refine AllReadyH.cons rfl (fun K hK => ?_) ?_
  · refine nstep_parts1 (d := 14) (by rfl) (by rfl) (.tmp 13) (by rfl) (by rfl) ?_
    intro wx3 gA hVA hk3 hg3
    try rw [if_neg hnc] at hVA
    replace n2 := n2.kept hk3 (fun h => h)
    replace n3 := n3.kept hk3 (fun h => h)
    refine hK.out _ _ (hHeld.thenN hk3) (fun hHeld => ?_)
    clear hK K
    try simp only [Act.put, List.setIfInBounds_toArray, List.set_cons_zero, List.set_cons_succ]
    refine wpAnyH_ready (rs := [4, 8]) (by kernel_rfl) (by simp) ?_
    refine AllReadyH.cons rfl (fun K hK => ?_) ?_
    · go_simp
      go_wp2_with (go_at_call 38; refine (HLA.out _ gA hHeld hVA).mono ?_; rintro e wx4 ⟨bA, mA, dA, rfl, oA, hk4⟩)
      replace oA := oA.mono hHeld.size
      replace hVA := hVA.keptN hk4
      replace n2 := n2.kept hk4 (fun h => h)
      replace n3 := n3.kept hk4 (fun h => h)
      refine hK.out _ _ (hHeld.thenN hk4) (fun hHeld => ?_)
      clear hK K
      try simp only [Act.put, List.setIfInBounds_toArray, List.set_cons_zero, List.set_cons_succ]
      refine wpAnyH_ready (rs := [8]) (by kernel_rfl) (by simp) ?_
      refine AllReadyH.cons rfl (fun K hK => ?_) ?_
      · refine nstep_parts1 (d := 19) (by rfl) (by rfl) (.tmp 18) (by rfl) (by rfl) ?_
        intro wx8 gB hVB hk8 hg8
        try rw [if_neg hnc] at hVB
        replace oA := oA.keptN hk8
        replace n2 := n2.kept hk8 (fun h => h)
        replace n3 := n3.kept hk8 (fun h => h)
        refine hK.out _ _ (hHeld.thenN hk8) (fun hHeld => ?_)
        clear hK K
        try simp only [Act.put, List.setIfInBounds_toArray, List.set_cons_zero, List.set_cons_succ]
        refine wpAnyH_ready (rs := [9]) (by kernel_rfl) (by simp) ?_
        refine AllReadyH.cons rfl (fun K hK => ?_) ?_
        · go_simp
          go_wp2_with (go_at_call 38; refine (HLB.out _ gB hHeld hVB).mono ?_; rintro e wx9 ⟨bB, mB, dB, rfl, oB, hk9⟩)
          replace oB := oB.mono hHeld.size
          replace hVB := hVB.keptN hk9
          replace oA := oA.keptN hk9
          replace n2 := n2.kept hk9 (fun h => h)
          replace n3 := n3.kept hk9 (fun h => h)
          refine hK.out _ _ (hHeld.thenN hk9) (fun hHeld => ?_)
          clear hK K
          try simp only [Act.put, List.setIfInBounds_toArray, List.set_cons_zero, List.set_cons_succ]
          refine wpAnyH_ready (rs := [15]) (by kernel_rfl) (by simp) ?_
          refine AllReadyH.cons rfl (fun K hK => ?_) ?_
          · refine nstep_store_nb (by rfl) (by rfl) (.tmp 2) (.tmp 15) (by rfl) w.heap.size (by rfl) (by rfl) n2 ?_
            clear n2
            intro wx15 n2 hk15
            replace n3 := nb_far n3 (by omega) hk15
            replace oA := oA.kept hk15 (fun z hz e => by have := (oA.lt z hz).1; have := HLT.out; unfold only at e; omega)
            replace oB := oB.kept hk15 (fun z hz e => by have := (oB.lt z hz).1; have := HLT.out; unfold only at e; omega)
            refine hK.out _ _ (hHeld.trans hk15 (fun _ _ h => h) (fun k _ e => by unfold only at e; show _ ≤ _; omega)) (fun hHeld => ?_)
            clear hK K
            try simp only [Act.put, List.setIfInBounds_toArray, List.set_cons_zero, List.set_cons_succ]
            refine wpAnyH_ready (rs := [16]) (by kernel_rfl) (by simp) ?_
            refine AllReadyH.cons rfl (fun K hK => ?_) ?_
            · refine nstep_store_nb (by rfl) (by rfl) (.tmp 3) (.tmp 20) (by rfl) (w.heap.size + 1) (by rfl) (by rfl) n3 ?_
              clear n3
              intro wx16 n3 hk16
              replace n2 := nb_far n2 (by omega) hk16
              replace oA := oA.kept hk16 (fun z hz e => by have := (oA.lt z hz).1; have := HLT.out; unfold only at e; omega)
              replace oB := oB.kept hk16 (fun z hz e => by have := (oB.lt z hz).1; have := HLT.out; unfold only at e; omega)
              refine hK.out _ _ (hHeld.trans hk16 (fun _ _ h => h) (fun k _ e => by unfold only at e; show _ ≤ _; omega)) (fun hHeld => ?_)
              clear hK K
              try simp only [Act.put, List.setIfInBounds_toArray, List.set_cons_zero, List.set_cons_succ]
              refine take_at (i := 17) (d := 4) (v := ?_) rfl rfl (by kernel_rfl) (by kernel_rfl) (by kernel_rfl) (fun _ _ _ h => h) (Or.inl ⟨by rfl, ?_⟩) (by assumption) ?_
              rotate_left
              · intro W hSW
                try dsimp only at hSW
                go_simp
                try with_reducible rfl
              try simp only [Act.put, List.setIfInBounds_toArray, List.set_cons_zero, List.set_cons_succ]
              refine wpAnyH_done (by kernel_rfl) ?_ _
              try go_wp2
              refine bodyPost_ret (results_nb2t rfl _ w.heap.size (w.heap.size + 1) _ (.string key) rfl rfl rfl n2 n3) rfl ?_
              exact ⟨_, _, _, _, _, _, rfl, oA.mono (by have := HLT.out; omega), oB.mono (by have := HLT.out; omega), (hK0.thenN hK1).trans hHeld (fun _ _ h => h) (fun k hk h => absurd hk (by have h' : w.heap.size ≤ k := h; omega))⟩
            exact AllReadyH.nil
          exact AllReadyH.nil
        exact AllReadyH.nil
      exact AllReadyH.nil
    refine AllReadyH.cons rfl (fun K hK => ?_) ?_
    · refine nstep_parts1 (d := 19) (by rfl) (by rfl) (.tmp 18) (by rfl) (by rfl) ?_
      intro wx8 gB hVB hk8 hg8
      try rw [if_neg hnc] at hVB
      replace hVA := hVA.keptN hk8
      replace n2 := n2.kept hk8 (fun h => h)
      replace n3 := n3.kept hk8 (fun h => h)
      refine hK.out _ _ (hHeld.thenN hk8) (fun hHeld => ?_)
      clear hK K
      try simp only [Act.put, List.setIfInBounds_toArray, List.set_cons_zero, List.set_cons_succ]
      refine wpAnyH_ready (rs := [4]) (by kernel_rfl) (by simp) ?_
      refine AllReadyH.cons rfl (fun K hK => ?_) ?_
      · go_simp
        go_wp2_with (go_at_call 38; refine (HLA.out _ gA hHeld hVA).mono ?_; rintro e wx4 ⟨bA, mA, dA, rfl, oA, hk4⟩)
        replace oA := oA.mono hHeld.size
        replace hVA := hVA.keptN hk4
        replace hVB := hVB.keptN hk4
        replace n2 := n2.kept hk4 (fun h => h)
        replace n3 := n3.kept hk4 (fun h => h)
        refine hK.out _ _ (hHeld.thenN hk4) (fun hHeld => ?_)
        clear hK K
        try simp only [Act.put, List.setIfInBounds_toArray, List.set_cons_zero, List.set_cons_succ]
        refine wpAnyH_ready (rs := [9]) (by kernel_rfl) (by simp) ?_
        refine AllReadyH.cons rfl (fun K hK => ?_) ?_
        · go_simp
          go_wp2_with (go_at_call 38; refine (HLB.out _ gB hHeld hVB).mono ?_; rintro e wx9 ⟨bB, mB, dB, rfl, oB, hk9⟩)
          replace oB := oB.mono hHeld.size
          replace hVB := hVB.keptN hk9
          replace oA := oA.keptN hk9
          replace n2 := n2.kept hk9 (fun h => h)
          replace n3 := n3.kept hk9 (fun h => h)
          refine hK.out _ _ (hHeld.thenN hk9) (fun hHeld => ?_)
          clear hK K
          try simp only [Act.put, List.setIfInBounds_toArray, List.set_cons_zero, List.set_cons_succ]
          refine wpAnyH_ready (rs := [15]) (by kernel_rfl) (by simp) ?_
          refine AllReadyH.cons rfl (fun K hK => ?_) ?_
          · refine nstep_store_nb (by rfl) (by rfl) (.tmp 2) (.tmp 15) (by rfl) w.heap.size (by rfl) (by rfl) n2 ?_
            clear n2
            intro wx15 n2 hk15
            replace n3 := nb_far n3 (by omega) hk15
            replace oA := oA.kept hk15 (fun z hz e => by have := (oA.lt z hz).1; have := HLT.out; unfold only at e; omega)
            replace oB := oB.kept hk15 (fun z hz e => by have := (oB.lt z hz).1; have := HLT.out; unfold only at e; omega)
            refine hK.out _ _ (hHeld.trans hk15 (fun _ _ h => h) (fun k _ e => by unfold only at e; show _ ≤ _; omega)) (fun hHeld => ?_)
            clear hK K
            try simp only [Act.put, List.setIfInBounds_toArray, List.set_cons_zero, List.set_cons_succ]
            refine wpAnyH_ready (rs := [16]) (by kernel_rfl) (by simp) ?_
            refine AllReadyH.cons rfl (fun K hK => ?_) ?_
            · refine nstep_store_nb (by rfl) (by rfl) (.tmp 3) (.tmp 20) (by rfl) (w.heap.size + 1) (by rfl) (by rfl) n3 ?_
              clear n3
              intro wx16 n3 hk16
              replace n2 := nb_far n2 (by omega) hk16
              replace oA := oA.kept hk16 (fun z hz e => by have := (oA.lt z hz).1; have := HLT.out; unfold only at e; omega)
              replace oB := oB.kept hk16 (fun z hz e => by have := (oB.lt z hz).1; have := HLT.out; unfold only at e; omega)
              refine hK.out _ _ (hHeld.trans hk16 (fun _ _ h => h) (fun k _ e => by unfold only at e; show _ ≤ _; omega)) (fun hHeld => ?_)
              clear hK K
              try simp only [Act.put, List.setIfInBounds_toArray, List.set_cons_zero, List.set_cons_succ]
              refine take_at (i := 17) (d := 4) (v := ?_) rfl rfl (by kernel_rfl) (by kernel_rfl) (by kernel_rfl) (fun _ _ _ h => h) (Or.inl ⟨by rfl, ?_⟩) (by assumption) ?_
              rotate_left
              · intro W hSW
                try dsimp only at hSW
                go_simp
                try with_reducible rfl
              try simp only [Act.put, List.setIfInBounds_toArray, List.set_cons_zero, List.set_cons_succ]
              refine wpAnyH_done (by kernel_rfl) ?_ _
              try go_wp2
              refine bodyPost_ret (results_nb2t rfl _ w.heap.size (w.heap.size + 1) _ (.string key) rfl rfl rfl n2 n3) rfl ?_
              exact ⟨_, _, _, _, _, _, rfl, oA.mono (by have := HLT.out; omega), oB.mono (by have := HLT.out; omega), (hK0.thenN hK1).trans hHeld (fun _ _ h => h) (fun k hk h => absurd hk (by have h' : w.heap.size ≤ k := h; omega))⟩
            exact AllReadyH.nil
          exact AllReadyH.nil
        exact AllReadyH.nil
      exact AllReadyH.nil
    exact AllReadyH.nil
  refine AllReadyH.cons rfl (fun K hK => ?_) ?_
  · refine nstep_parts1 (d := 19) (by rfl) (by rfl) (.tmp 18) (by rfl) (by rfl) ?_
    intro wx8 gB hVB hk8 hg8
    try rw [if_neg hnc] at hVB
    replace n2 := n2.kept hk8 (fun h => h)
    replace n3 := n3.kept hk8 (fun h => h)
    refine hK.out _ _ (hHeld.thenN hk8) (fun hHeld => ?_)
    clear hK K
    try simp only [Act.put, List.setIfInBounds_toArray, List.set_cons_zero, List.set_cons_succ]
    refine wpAnyH_ready (rs := [3]) (by kernel_rfl) (by simp) ?_
    refine AllReadyH.cons rfl (fun K hK => ?_) ?_
    · refine nstep_parts1 (d := 14) (by rfl) (by rfl) (.tmp 13) (by rfl) (by rfl) ?_
      intro wx3 gA hVA hk3 hg3
      try rw [if_neg hnc] at hVA
      replace hVB := hVB.keptN hk3
      replace n2 := n2.kept hk3 (fun h => h)
      replace n3 := n3.kept hk3 (fun h => h)
      refine hK.out _ _ (hHeld.thenN hk3) (fun hHeld => ?_)
      clear hK K
      try simp only [Act.put, List.setIfInBounds_toArray, List.set_cons_zero, List.set_cons_succ]
      refine wpAnyH_ready (rs := [4]) (by kernel_rfl) (by simp) ?_
      refine AllReadyH.cons rfl (fun K hK => ?_) ?_
      · go_simp
        go_wp2_with (go_at_call 38; refine (HLA.out _ gA hHeld hVA).mono ?_; rintro e wx4 ⟨bA, mA, dA, rfl, oA, hk4⟩)
        replace oA := oA.mono hHeld.size
        replace hVA := hVA.keptN hk4
        replace hVB := hVB.keptN hk4
        replace n2 := n2.kept hk4 (fun h => h)
        replace n3 := n3.kept hk4 (fun h => h)
        refine hK.out _ _ (hHeld.thenN hk4) (fun hHeld => ?_)
        clear hK K
        try simp only [Act.put, List.setIfInBounds_toArray, List.set_cons_zero, List.set_cons_succ]
        refine wpAnyH_ready (rs := [9]) (by kernel_rfl) (by simp) ?_
        refine AllReadyH.cons rfl (fun K hK => ?_) ?_
        · go_simp
          go_wp2_with (go_at_call 38; refine (HLB.out _ gB hHeld hVB).mono ?_; rintro e wx9 ⟨bB, mB, dB, rfl, oB, hk9⟩)
          replace oB := oB.mono hHeld.size
          replace hVB := hVB.keptN hk9
          replace oA := oA.keptN hk9
          replace n2 := n2.kept hk9 (fun h => h)
          replace n3 := n3.kept hk9 (fun h => h)
          refine hK.out _ _ (hHeld.thenN hk9) (fun hHeld => ?_)
          clear hK K
          try simp only [Act.put, List.setIfInBounds_toArray, List.set_cons_zero, List.set_cons_succ]
          refine wpAnyH_ready (rs := [15]) (by kernel_rfl) (by simp) ?_
          refine AllReadyH.cons rfl (fun K hK => ?_) ?_
          · refine nstep_store_nb (by rfl) (by rfl) (.tmp 2) (.tmp 15) (by rfl) w.heap.size (by rfl) (by rfl) n2 ?_
            clear n2
            intro wx15 n2 hk15
            replace n3 := nb_far n3 (by omega) hk15
            replace oA := oA.kept hk15 (fun z hz e => by have := (oA.lt z hz).1; have := HLT.out; unfold only at e; omega)
            replace oB := oB.kept hk15 (fun z hz e => by have := (oB.lt z hz).1; have := HLT.out; unfold only at e; omega)
            refine hK.out _ _ (hHeld.trans hk15 (fun _ _ h => h) (fun k _ e => by unfold only at e; show _ ≤ _; omega)) (fun hHeld => ?_)
            clear hK K
            try simp only [Act.put, List.setIfInBounds_toArray, List.set_cons_zero, List.set_cons_succ]
            refine wpAnyH_ready (rs := [16]) (by kernel_rfl) (by simp) ?_
            refine AllReadyH.cons rfl (fun K hK => ?_) ?_
            · refine nstep_store_nb (by rfl) (by rfl) (.tmp 3) (.tmp 20) (by rfl) (w.heap.size + 1) (by rfl) (by rfl) n3 ?_
              clear n3
              intro wx16 n3 hk16
              replace n2 := nb_far n2 (by omega) hk16
              replace oA := oA.kept hk16 (fun z hz e => by have := (oA.lt z hz).1; have := HLT.out; unfold only at e; omega)
              replace oB := oB.kept hk16 (fun z hz e => by have := (oB.lt z hz).1; have := HLT.out; unfold only at e; omega)
              refine hK.out _ _ (hHeld.trans hk16 (fun _ _ h => h) (fun k _ e => by unfold only at e; show _ ≤ _; omega)) (fun hHeld => ?_)
              clear hK K
              try simp only [Act.put, List.setIfInBounds_toArray, List.set_cons_zero, List.set_cons_succ]
              refine take_at (i := 17) (d := 4) (v := ?_) rfl rfl (by kernel_rfl) (by kernel_rfl) (by kernel_rfl) (fun _ _ _ h => h) (Or.inl ⟨by rfl, ?_⟩) (by assumption) ?_
              rotate_left
              · intro W hSW
                try dsimp only at hSW
                go_simp
                try with_reducible rfl
              try simp only [Act.put, List.setIfInBounds_toArray, List.set_cons_zero, List.set_cons_succ]
              refine wpAnyH_done (by kernel_rfl) ?_ _
              try go_wp2
              refine bodyPost_ret (results_nb2t rfl _ w.heap.size (w.heap.size + 1) _ (.string key) rfl rfl rfl n2 n3) rfl ?_
              exact ⟨_, _, _, _, _, _, rfl, oA.mono (by have := HLT.out; omega), oB.mono (by have := HLT.out; omega), (hK0.thenN hK1).trans hHeld (fun _ _ h => h) (fun k hk h => absurd hk (by have h' : w.heap.size ≤ k := h; omega))⟩
            exact AllReadyH.nil
          exact AllReadyH.nil
        exact AllReadyH.nil
      exact AllReadyH.nil
    exact AllReadyH.nil
  exact AllReadyH.nil

end Go.Proofs.Ytjmkfkmdafjgnaa
