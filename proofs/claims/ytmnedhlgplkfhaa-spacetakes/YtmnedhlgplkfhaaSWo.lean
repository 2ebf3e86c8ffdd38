/- Contracts, over the turned program: a piece of work: Read, Write, Take, Drop, Head, Used. Conditions: those that each theorem states. -/
import Derived.Test.YtmnedhlgplkfhaaSWc
namespace Go.Proofs.Ytmnedhlgplkfhaa
open Go.RowKit
set_option linter.unusedVariables false

/-- A piece of work of the program's in memory, beside the document's; all its blocks are of V; m bounds its notes. -/
def Wk (w : World) (r : Nat) (V : Nat → Prop) (c m : Nat) (S : Sw) : Prop :=
  (S.over = true ∧ w.cell? ⟨r, 1, none⟩ = some (.bool true) ∧ V r) ∨ (S.over = false ∧ ∃ gP P NL, Wm w r gP V c P NL ∧ Ag P NL S ∧ NL.length ≤ m ∧ ∀ l ∈ NL, l.length ≤ m)
theorem Wk.mono {w : World} {r : Nat} {V V' : Nat → Prop} {c m m' : Nat} {S : Sw} (h : Wk w r V c m S) (hV : ∀ k, k < w.heap.size → V k → V' k) (hm : m ≤ m') : Wk w r V' c m' S := by
  rcases h with ⟨h1, h2, h3⟩ | ⟨h1, gP, P, NL, h2, h3, h4, h5⟩
  · exact .inl ⟨h1, h2, hV r (lt_of_cell h2) h3⟩
  · exact .inr ⟨h1, gP, P, NL, h2.mono hV, h3, Nat.le_trans h4 hm, fun l hl => Nat.le_trans (h5 l hl) hm⟩
theorem Wk.kept {w w' : World} {r : Nat} {V S' : Nat → Prop} {c m : Nat} {S : Sw} (h : Wk w r V c m S) (hk : Kp S' w w') (hS : ∀ k, k < w.heap.size → V k → ¬ S' k) : Wk w' r V c m S := by
  rcases h with ⟨h1, h2, h3⟩ | ⟨h1, gP, P, NL, h2, h3, h4, h5⟩
  · exact .inl ⟨h1, hk.cell h2 (hS r (lt_of_cell h2) h3), h3⟩
  · exact .inr ⟨h1, gP, P, NL, h2.kept hk hS, h3, h4, h5⟩
theorem Wk.keptN {w w' : World} {r : Nat} {V : Nat → Prop} {c m : Nat} {S : Sw} (h : Wk w r V c m S) (hk : Kp none' w w') : Wk w' r V c m S := h.kept hk (fun _ _ _ h => h)
theorem chgN_bound {P : List ByteArray} {NL : List (List Chg)} {n m : Nat} (h : ∀ l ∈ NL, l.length ≤ m) : ∀ l ∈ chgN P NL n, l.length ≤ m + 1 := fun l hl => by
  rcases chgN_mem hl with h1 | ⟨h1, h2⟩
  · exact Nat.le_succ_of_le (h l h1)
  · rw [h2, List.length_append]
    exact Nat.succ_le_succ (h _ (lastC_mem h1))
theorem thereS_at {l : List ByteArray} {z : Int} (h : thereS l z = true) : ∃ n : Nat, z = (n : Int) ∧ 0 < n ∧ n < l.length ∧ isU l n = true := by
  unfold thereS at h
  rw [Bool.and_eq_true, decide_eq_true_iff] at h
  refine ⟨z.toNat, by omega, by omega, by omega, h.2⟩
set_option maxRecDepth 100000 in
set_option maxHeartbeats 800000 in
theorem sturn_any (r gP c n : Nat) (V : Nat → Prop) (P : List ByteArray) (NL : List (List Chg)) (w : World) (H : Wm w r gP V c P NL) (hn : n < 160) (h0 : 0 < P.length) (h1 : P.length ≤ 160) (hs : (pg0 P).size = 256) (hN : NL.length ≤ 10000) (hl : ∀ l ∈ NL, l.length ≤ 10000) (hpg : ∀ l ∈ NL, ∀ c ∈ l, 0 ≤ c.page ∧ c.page < (P.length : Int)) :
    Calls Try.prog 19 #[.pointer (some ⟨r, 0, none⟩), .int .i64 (n : Int)] w fun e w' => e = .returned (.tuple #[]) ∧ Wm w' r gP (fun b => V b ∨ w.heap.size ≤ b) c (turnL P n) (chgN P NL 0) ∧ Kp V w w' := by
  obtain ⟨cN, c2, _⟩ := H.c2
  have d0 := (H.pageAt 0 h0).1
  have e0 : P.getD 0 ⟨#[]⟩ = pg0 P := rfl
  rw [e0] at d0
  have hl0 : (0 : Int) < (P.length : Int) := by omega
  obtain ⟨p, HP⟩ : ∃ p, Hid (pg0 P = p) := ⟨_, rfl⟩
  have HT : Hid (turnL P n = P.set 0 (turnS p n)) := by show _ = _; unfold turnL; rw [HP.out]
  rw [HP.out] at d0 hs
  obtain ⟨W1, cap, hcv, hcl, hfz, hk1, hsz1, hback⟩ := conv_set p (n / 8) (byteAt p (n / 8) ^^^ UInt8.ofNat (2 ^ (n % 8))) (by omega) w
  rw [hs] at hcv hback
  obtain ⟨B, HB⟩ : ∃ B, Hid (w.heap.size = B) := ⟨_, rfl⟩
  rw [HB.out] at hcv hcl hfz hback hsz1
  have hn8 : ((n : Int) / 8) < 256 := by omega
  have HCH : Hid (∀ (W : World) (x : ByteArray), Kp none' w W → Calls Try.prog 20 #[.pointer (some ⟨r, 0, none⟩), .int .i64 0, .string x] W fun e w' => e = .returned (.tuple #[]) ∧ Wm w' r gP (fun b => V b ∨ w.heap.size ≤ b) c (P.set 0 x) (chgN P NL 0) ∧ Kp V w w') := fun W x hk => by
    refine (schange_any r gP c 0 V P NL x W (H.keptN hk) h0 h1 hN hl hpg).mono ?_
    rintro e w' ⟨rfl, a1, a2⟩
    exact ⟨rfl, a1.mono (fun b _ h => by rcases h with h | h; exact .inl h; exact .inr (Nat.le_trans hk.size h)), hk.nThen a2⟩
  obtain ⟨ln, HL⟩ : ∃ ln, Hid (P.length = ln) := ⟨_, rfl⟩
  rw [HL.out] at c2 hl0
  clear H hpg
  go_enter Try.func19, Try.ntmps19
  go_upto_region 1 with fail
  have p1 := Put.set W1 B (n / 8) (.int .u8 ((byteAt p (n / 8) ^^^ UInt8.ofNat (2 ^ (n % 8))).toNat : Int)) _ hcl
  have HBX := hide (bits_xor (byteAt p (n / 8)) (n % 8) (Nat.mod_lt _ (by omega)))
  have HTS : Hid (turnS p n = ⟨(p.data.toList.set (n / 8) (byteAt p (n / 8) ^^^ UInt8.ofNat (2 ^ (n % 8)))).toArray⟩) := by show _ = _; rfl
  have hb2 := hback _ (Kp.drew none' _)
  rw [← HTS.out] at hb2
  obtain ⟨T, HTT⟩ : ∃ T, Hid (turnS p n = T) := ⟨_, rfl⟩
  rw [HTT.out] at hb2 HT
  have kw : Kp none' w (W1.setCell ⟨B, n / 8, none⟩ (.int .u8 ((byteAt p (n / 8) ^^^ UInt8.ofNat (2 ^ (n % 8))).toNat : Int))).drew := (hk1.trans p1.kp (S'' := none') (fun _ _ h => h) (fun k hk e => absurd hk (by have e' : k = B := e; have := HB.out; omega))).then (Kp.drew none' _)
  have hcd : W1.drew.cell? ⟨B, n / 8, none⟩ = some (.int .u8 ((byteAt p (n / 8)).toNat : Int)) := hcl
  have hfd : W1.drew.frozen? ⟨B, n / 8, none⟩ = false := hfz
  have hcc := HCH.out _ T kw
  obtain ⟨W2, H2⟩ : ∃ W2, Hid ((W1.setCell ⟨B, n / 8, none⟩ (.int .u8 ((byteAt p (n / 8) ^^^ UInt8.ofNat (2 ^ (n % 8))).toNat : Int))).drew = W2) := ⟨_, rfl⟩
  rw [H2.out] at hcc hb2
  clear p1 hback hcv kw
  go_region
  all_goals rw [HBX.out, H2.out]
  all_goals go_wp2_with (first
    | (go_at_call 20; refine hcc.mono ?_; rintro e w2 ⟨rfl, hW2, hk2⟩)
    | fail)
  all_goals first | go_end0 | ((try simp only [Exit.inBlock, Exit.then]); refine bodyPost_ret (results_none rfl _ _ _) rfl ?_)
  all_goals exact ⟨rfl, by rw [HT.out]; exact hW2, hk2⟩

end Go.Proofs.Ytmnedhlgplkfhaa
