/- Contracts, over the turned program: a piece of work: Read, Write, Take, Drop, Head, Used. Conditions: those that each theorem states. -/
import Derived.Test.YtmnedhlgplkfhaaGreatSWc
namespace Go.Proofs.YtmnedhlgplkfhaaGreat
open Go.RowKit
set_option linter.unusedVariables false

/-- A piece of work of the program's in memory, beside the document's; all its blocks are of V; m bounds its notes. -/
def Wk (w : World) (r : Nat) (V : Nat → Prop) (c m : Nat) (S : Sw) : Prop :=
  (S.over = true ∧ w.cell? ⟨r, 1, none⟩ = some (.bool true) ∧ V r) ∨ (S.over = false ∧ ∃ gP P NL, Wm w r gP V c P NL ∧ Ag P NL S ∧ NL.length ≤ m ∧ ∀ l ∈ NL, l.length ≤ m)
theorem Wk.mono {w : World} {r : Nat} {V V' : Nat → Prop} {c m m' : Nat} {S : Sw} (h : Wk w r V c m S) (hV : ∀ k, k < w.heap.size → V k → V' k) (hm : m ≤ m') : Wk w r V' c m' S := by
  rcases h with ⟨h1, h2, h3⟩ | ⟨h1, gP, P, NL, h2, h3, h4, h5⟩
  · exact .inl ⟨h1, h2, hV r (lt_of_cell h2) h3⟩
  · exact .inr ⟨h1, gP, P, NL, h2.mono hV, h3, Nat.le_trans h4 hm, fun l hl => Nat.le_trans (h5 l hl) hm⟩
theorem Wk.kept {w w' : World} {r : Nat} {V S' : Nat → Prop} {c m : Nat} {S : Sw} (h : Wk w r V c m S) (hk : Kp S' w w') (hS : ∀ k, k < w.heap.size → V k → ¬ S' k) : Wk w' r V c m S := by
  rcases h with ⟨h1, h2, h3⟩ | ⟨h1, gP, P, NL, h2, h3, h4, h5⟩
  · exact .inl ⟨h1, hk.cell h2 (hS r (lt_of_cell h2) h3), h3⟩
  · exact .inr ⟨h1, gP, P, NL, h2.kept hk hS, h3, h4, h5⟩
theorem Wk.keptN {w w' : World} {r : Nat} {V : Nat → Prop} {c m : Nat} {S : Sw} (h : Wk w r V c m S) (hk : Kp none' w w') : Wk w' r V c m S := h.kept hk (fun _ _ _ h => h)
theorem chgN_bound {P : List ByteArray} {NL : List (List Chg)} {n m : Nat} (h : ∀ l ∈ NL, l.length ≤ m) : ∀ l ∈ chgN P NL n, l.length ≤ m + 1 := fun l hl => by
  rcases chgN_mem hl with h1 | ⟨h1, h2⟩
  · exact Nat.le_succ_of_le (h l h1)
  · rw [h2, List.length_append]
    exact Nat.succ_le_succ (h _ (lastC_mem h1))
theorem thereS_at {l : List ByteArray} {z : Int} (h : thereS l z = true) : ∃ n : Nat, z = (n : Int) ∧ 0 < n ∧ n < l.length ∧ isU l n = true := by
  unfold thereS at h
  rw [Bool.and_eq_true, decide_eq_true_iff] at h
  refine ⟨z.toNat, by omega, by omega, by omega, h.2⟩
set_option maxRecDepth 100000 in
set_option maxHeartbeats 800000 in
theorem sread_any (r : Nat) (z : Int) (V : Nat → Prop) (c m : Nat) (S : Sw) (w : World) (H : Wk w r V c m S) :
    Calls Tryz.prog 25 #[.pointer (some ⟨r, 0, none⟩), .int .i64 z] w fun e w' => e = .returned (.tuple #[.string (S.read z).1, .int .i64 (S.read z).2]) ∧ w' = w := by
  rcases H with ⟨hov, c1, _⟩ | ⟨hov, gP, P, NL, hW, hA, _, _⟩
  · have e1 : S.read z = (⟨#[]⟩, 13) := by unfold Sw.read; rw [hov]; rfl
    rw [e1]
    have hr := srefusalOf_over r z w c1
    go_enter Tryz.func25, Tryz.ntmps25
    go_wp2_with (first
      | (go_at_call 52; refine hr.mono ?_; rintro e w' ⟨rfl, rfl⟩)
      | fail)
    go_ret2
    exact ⟨rfl, rfl⟩
  · have hr := srefusalOf_ok r gP V c P NL z w hW (by rw [hA.a.len]; exact hA.l0) (by rw [hA.a.len]; exact hA.l1) hA.sP
    rw [offB_there hA.a hA.l0] at hr
    cases ht : thereS S.now z with
    | false =>
      have e1 : S.read z = (⟨#[]⟩, 7) := by unfold Sw.read; rw [hov, ht]; rfl
      rw [e1]
      rw [ht] at hr
      go_enter Tryz.func25, Tryz.ntmps25
      go_wp2_with (first
        | (go_at_call 52; refine hr.mono ?_; rintro e w' ⟨rfl, rfl⟩)
        | fail)
      go_ret2
      exact ⟨rfl, rfl⟩
    | true =>
      rw [ht] at hr
      obtain ⟨n, rfl, hn0, hn, hu⟩ := thereS_at ht
      have e1 : S.read (n : Int) = (S.now.getD n ⟨#[]⟩, 0) := by unfold Sw.read; rw [hov, ht, Int.toNat_natCast]; rfl
      rw [e1]
      have hnP : n < P.length := by rw [hA.a.len]; exact hn
      have d0 := (hW.pageAt n hnP).1
      rw [hA.a.us n hn hu] at d0
      obtain ⟨cN, c2, _⟩ := hW.c2
      have hni : (n : Int) < (P.length : Int) := by omega
      obtain ⟨ln, HL⟩ : ∃ ln, Hid (P.length = ln) := ⟨_, rfl⟩
      rw [HL.out] at c2 hni
      obtain ⟨X, HX⟩ : ∃ X, Hid (S.now.getD n ⟨#[]⟩ = X) := ⟨_, rfl⟩
      rw [HX.out] at d0 ⊢
      clear ht hu hW hA e1
      go_enter Tryz.func25, Tryz.ntmps25
      go_wp2_with (first
        | (go_at_call 52; refine hr.mono ?_; rintro e w' ⟨rfl, rfl⟩)
        | fail)
      go_ret2
      exact ⟨rfl, rfl⟩
set_option maxRecDepth 100000 in
set_option maxHeartbeats 800000 in
theorem swrite_any (r : Nat) (z : Int) (x : ByteArray) (V : Nat → Prop) (c m : Nat) (S : Sw) (w : World) (H : Wk w r V c m S) (hm : m ≤ 5000) (hx : x.size ≤ 1000) :
    Calls Tryz.prog 28 #[.pointer (some ⟨r, 0, none⟩), .int .i64 z, .string x] w fun e w' => e = .returned (.int .i64 (S.writeE z x)) ∧ Wk w' r (fun b => V b ∨ w.heap.size ≤ b) c (m + 1) (S.write z x) ∧ Kp V w w' := by
  have HS : Hid (Wk w r (fun b => V b ∨ w.heap.size ≤ b) c (m + 1) S) := H.mono (fun _ _ h => .inl h) (by omega)
  rcases H with ⟨hov, c1, _⟩ | ⟨hov, gP, P, NL, hW, hA, hNm, hNl⟩
  · have e1 : S.writeE z x = 13 := by unfold Sw.writeE; rw [hov]; rfl
    have e2 : S.write z x = S := by unfold Sw.write; rw [e1]; rfl
    rw [e1, e2]
    have hr := srefusalOf_over r z w c1
    go_enter Tryz.func28, Tryz.ntmps28
    go_wp2_with (first
      | (go_at_call 52; refine hr.mono ?_; rintro e w' ⟨rfl, rfl⟩)
      | fail)
    go_ret
    exact ⟨rfl, HS.out, Kp.refl _ _⟩
  · have hr := srefusalOf_ok r gP V c P NL z w hW (by rw [hA.a.len]; exact hA.l0) (by rw [hA.a.len]; exact hA.l1) hA.sP
    rw [offB_there hA.a hA.l0] at hr
    cases ht : thereS S.now z with
    | false =>
      have e1 : S.writeE z x = 7 := by unfold Sw.writeE; rw [hov, ht]; rfl
      have e2 : S.write z x = S := by unfold Sw.write; rw [e1]; rfl
      rw [e1, e2]
      rw [ht] at hr
      clear hW hA
      go_enter Tryz.func28, Tryz.ntmps28
      go_wp2_with (first
        | (go_at_call 52; refine hr.mono ?_; rintro e w' ⟨rfl, rfl⟩)
        | fail)
      go_ret
      exact ⟨rfl, HS.out, Kp.refl _ _⟩
    | true =>
      rw [ht] at hr
      by_cases h256 : x.size = 256
      · have e1 : S.writeE z x = 0 := by unfold Sw.writeE; rw [hov, ht, if_pos h256]; rfl
        obtain ⟨n, hzn, hn0, hn, hu⟩ := thereS_at ht
        subst hzn
        have e2 : S.write (n : Int) x = { S with now := S.now.set n x } := by unfold Sw.write; rw [if_pos e1, Int.toNat_natCast]
        rw [e1, e2]
        have hnP : n < P.length := by rw [hA.a.len]; exact hn
        have hch := schange_any r gP c n V P NL x w hW hnP (by rw [hA.a.len]; exact hA.l1) (by omega) (fun l hl => Nat.le_trans (hNl l hl) (by omega)) hA.g.pg
        have HA2 := hide (hA.chg n x (S.now.set n x) hnP (by omega) (hA.a.put n x hn hn0) (sizes_set hA.sz h256))
        have HB2 : Hid ((chgN P NL n).length ≤ m + 1 ∧ ∀ l ∈ chgN P NL n, l.length ≤ m + 1) := ⟨by rw [chgN_len]; omega, chgN_bound hNl⟩
        have hxb : (((x.size : Nat) : Int) != 256) = false := by rw [h256]; rfl
        have HOV : Hid (({ S with now := S.now.set n x } : Sw).over = false) := hov
        have HCH := hide hch
        clear hW hA hu ht e1 e2 h256 hch
        go_enter Tryz.func28, Tryz.ntmps28
        go_wp2_with (first
          | (go_at_call 52; refine hr.mono ?_; rintro e w' ⟨rfl, rfl⟩)
          | (go_at_call 54; refine HCH.out.mono ?_; rintro e w2 ⟨rfl, hW2, hk2⟩)
          | fail)
        go_ret
        exact ⟨rfl, .inr ⟨HOV.out, gP, _, _, hW2, HA2.out, HB2.out.1, HB2.out.2⟩, hk2⟩
      · have e1 : S.writeE z x = 1 := by unfold Sw.writeE; rw [hov, ht, if_neg h256]; rfl
        have e2 : S.write z x = S := by unfold Sw.write; rw [e1]; rfl
        rw [e1, e2]
        have hxb : (((x.size : Nat) : Int) != 256) = true := by
          have : ((x.size : Nat) : Int) ≠ 256 := by omega
          simpa using this
        clear hW hA h256
        go_enter Tryz.func28, Tryz.ntmps28
        go_wp2_with (first
          | (go_at_call 52; refine hr.mono ?_; rintro e w' ⟨rfl, rfl⟩)
          | fail)
        go_ret
        exact ⟨rfl, HS.out, Kp.refl _ _⟩
set_option maxRecDepth 100000 in
set_option maxHeartbeats 800000 in
theorem sturn_any (r gP c n : Nat) (V : Nat → Prop) (P : List ByteArray) (NL : List (List Chg)) (w : World) (H : Wm w r gP V c P NL) (hn : n < 160) (h0 : 0 < P.length) (h1 : P.length ≤ 160) (hs : (pg0 P).size = 256) (hN : NL.length ≤ 10000) (hl : ∀ l ∈ NL, l.length ≤ 10000) (hpg : ∀ l ∈ NL, ∀ c ∈ l, 0 ≤ c.page ∧ c.page < (P.length : Int)) :
    Calls Tryz.prog 53 #[.pointer (some ⟨r, 0, none⟩), .int .i64 (n : Int)] w fun e w' => e = .returned (.tuple #[]) ∧ Wm w' r gP (fun b => V b ∨ w.heap.size ≤ b) c (turnL P n) (chgN P NL 0) ∧ Kp V w w' := by
  obtain ⟨cN, c2, _⟩ := H.c2
  have d0 := (H.pageAt 0 h0).1
  have e0 : P.getD 0 ⟨#[]⟩ = pg0 P := rfl
  rw [e0] at d0
  have hl0 : (0 : Int) < (P.length : Int) := by omega
  obtain ⟨p, HP⟩ : ∃ p, Hid (pg0 P = p) := ⟨_, rfl⟩
  have HT : Hid (turnL P n = P.set 0 (turnS p n)) := by show _ = _; unfold turnL; rw [HP.out]
  rw [HP.out] at d0 hs
  obtain ⟨W1, cap, hcv, hcl, hfz, hk1, hsz1, hback⟩ := conv_set p (n / 8) (byteAt p (n / 8) ^^^ UInt8.ofNat (2 ^ (n % 8))) (by omega) w
  rw [hs] at hcv hback
  obtain ⟨B, HB⟩ : ∃ B, Hid (w.heap.size = B) := ⟨_, rfl⟩
  rw [HB.out] at hcv hcl hfz hback hsz1
  have hn8 : ((n : Int) / 8) < 256 := by omega
  have HCH : Hid (∀ (W : World) (x : ByteArray), Kp none' w W → Calls Tryz.prog 54 #[.pointer (some ⟨r, 0, none⟩), .int .i64 0, .string x] W fun e w' => e = .returned (.tuple #[]) ∧ Wm w' r gP (fun b => V b ∨ w.heap.size ≤ b) c (P.set 0 x) (chgN P NL 0) ∧ Kp V w w') := fun W x hk => by
    refine (schange_any r gP c 0 V P NL x W (H.keptN hk) h0 h1 hN hl hpg).mono ?_
    rintro e w' ⟨rfl, a1, a2⟩
    exact ⟨rfl, a1.mono (fun b _ h => by rcases h with h | h; exact .inl h; exact .inr (Nat.le_trans hk.size h)), hk.nThen a2⟩
  obtain ⟨ln, HL⟩ : ∃ ln, Hid (P.length = ln) := ⟨_, rfl⟩
  rw [HL.out] at c2 hl0
  clear H hpg
  go_enter Tryz.func53, Tryz.ntmps53
  go_upto_region 1 with fail
  have p1 := Put.set W1 B (n / 8) (.int .u8 ((byteAt p (n / 8) ^^^ UInt8.ofNat (2 ^ (n % 8))).toNat : Int)) _ hcl
  have HBX := hide (bits_xor (byteAt p (n / 8)) (n % 8) (Nat.mod_lt _ (by omega)))
  have HTS : Hid (turnS p n = ⟨(p.data.toList.set (n / 8) (byteAt p (n / 8) ^^^ UInt8.ofNat (2 ^ (n % 8)))).toArray⟩) := by show _ = _; rfl
  have hb2 := hback _ (Kp.drew none' _)
  rw [← HTS.out] at hb2
  obtain ⟨T, HTT⟩ : ∃ T, Hid (turnS p n = T) := ⟨_, rfl⟩
  rw [HTT.out] at hb2 HT
  have kw : Kp none' w (W1.setCell ⟨B, n / 8, none⟩ (.int .u8 ((byteAt p (n / 8) ^^^ UInt8.ofNat (2 ^ (n % 8))).toNat : Int))).drew := (hk1.trans p1.kp (S'' := none') (fun _ _ h => h) (fun k hk e => absurd hk (by have e' : k = B := e; have := HB.out; omega))).then (Kp.drew none' _)
  have hcd : W1.drew.cell? ⟨B, n / 8, none⟩ = some (.int .u8 ((byteAt p (n / 8)).toNat : Int)) := hcl
  have hfd : W1.drew.frozen? ⟨B, n / 8, none⟩ = false := hfz
  have hcc := HCH.out _ T kw
  obtain ⟨W2, H2⟩ : ∃ W2, Hid ((W1.setCell ⟨B, n / 8, none⟩ (.int .u8 ((byteAt p (n / 8) ^^^ UInt8.ofNat (2 ^ (n % 8))).toNat : Int))).drew = W2) := ⟨_, rfl⟩
  rw [H2.out] at hcc hb2
  clear p1 hback hcv kw
  go_region
  all_goals rw [HBX.out, H2.out]
  all_goals go_wp2_with (first
    | (go_at_call 54; refine hcc.mono ?_; rintro e w2 ⟨rfl, hW2, hk2⟩)
    | fail)
  all_goals first | go_end0 | ((try simp only [Exit.inBlock, Exit.then]); refine bodyPost_ret (results_none rfl _ _ _) rfl ?_)
  all_goals exact ⟨rfl, by rw [HT.out]; exact hW2, hk2⟩

end Go.Proofs.YtmnedhlgplkfhaaGreat
