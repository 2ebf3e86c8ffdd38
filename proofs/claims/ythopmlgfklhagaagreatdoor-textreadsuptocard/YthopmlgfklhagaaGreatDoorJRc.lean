/- Contract, over the turned program: the document's number of a word. Conditions: those that the theorem states. -/
import Derived.Test.YthopmlgfklhagaaGreatDoorJRb
import Derived.Lib.Zigzag
namespace Go.Proofs.YthopmlgfklhagaaGreatDoor
open Go.RowKit
set_option linter.unusedVariables false

theorem sget (s : ByteArray) (k : Nat) (h : k < s.size) : s.data.toList[k]'(by rw [show s.data.toList.length = s.size from Array.length_toList]; exact h) = s[k] := rfl
theorem head_of (s : ByteArray) (h : 0 < s.size) : s.data.toList.headD 0 = s[0] := by
  have h2 : 0 < s.data.toList.length := by rw [show s.data.toList.length = s.size from Array.length_toList]; exact h
  rw [← sget s 0 h]
  have key : ∀ (l : List UInt8) (h : 0 < l.length), l.headD 0 = l[0] := by
    intro l h
    cases l with
    | nil => simp at h
    | cons a r => rfl
  exact key _ h2
/-- What Number answers, of a sign and digits. -/
def numD (m : Bool) (d : List UInt8) : Option Int :=
  if okNum m d then (if m then (if decV d ≤ 9223372036854775808 then some (-(decV d : Int)) else none) else if decV d < 9223372036854775808 then some (decV d : Int) else none) else none
theorem numW_D (s : List UInt8) : numW s = numD (minusW s) (digW s) := rfl
def NumR (o : Option Int) (z : Int) (b : Bool) : Prop := b = o.isSome ∧ ∀ z', o = some z' → z = z'
theorem numR_no (m : Bool) (d : List UInt8) (h : okNum m d = false) : NumR (numD m d) 0 false := by
  unfold numD
  rw [h]
  exact ⟨rfl, fun z' h => by cases h⟩
theorem okNum_len0 (m : Bool) (d : List UInt8) (h : d.length < 1) : okNum m d = false := by unfold okNum; rw [decide_eq_false (by omega)]; rfl
theorem okNum_len19 (m : Bool) (d : List UInt8) (h : 19 < d.length) : okNum m d = false := by unfold okNum; rw [decide_eq_false (by omega)]; rfl
theorem okNum_head (m : Bool) (d : List UInt8) (h : d.headD 0 = 48) (h2 : 1 < d.length ∨ m = true) : okNum m d = false := by
  unfold okNum
  have : (d.headD 0 == 48 && (decide (1 < d.length) || m)) = true := by
    rw [h]
    rcases h2 with h2 | h2
    · rw [decide_eq_true h2]; rfl
    · rw [h2]; simp
  rw [this]
  simp
theorem okNum_dig (m : Bool) (d : List UInt8) (k : Nat) (hk : k < d.length) (h : isDg d[k] = false) : okNum m d = false := by
  unfold okNum
  have : d.all isDg = false := by rw [List.all_eq_false]; exact ⟨d[k], List.getElem_mem hk, by simp [h]⟩
  rw [this, Bool.and_false]
theorem okNum_yes (m : Bool) (d : List UInt8) (h0 : 1 ≤ d.length) (h1 : d.length ≤ 19) (h2 : d.headD 0 = 48 → d.length ≤ 1 ∧ m = false) (h3 : d.all isDg = true) : okNum m d = true := by
  unfold okNum
  rw [decide_eq_true ⟨h0, h1⟩, h3, Bool.and_true, Bool.true_and, Bool.not_eq_true']
  by_cases hh : d.headD 0 = 48
  · obtain ⟨a, b⟩ := h2 hh
    rw [hh, b, decide_eq_false (by omega)]
    rfl
  · have : (d.headD 0 == 48) = false := by rw [beq_eq_false_iff_ne]; exact hh
    rw [this]; rfl
theorem dec_take (d : List UInt8) (k : Nat) (hk : k < d.length) : decV (d.take (k + 1)) = 10 * decV (d.take k) + (d[k].toNat - 48) := by
  rw [List.take_succ_eq_append_getElem hk, decV_snoc]
theorem dec_small19 (d : List UInt8) (k : Nat) (hk : k < 19) (h : (d.take k).all isDg = true) : decV (d.take k) < 1000000000000000000 := by
  have h1 := decV_lt _ h
  have h2 : (d.take k).length ≤ 18 := by rw [List.length_take]; omega
  have h3 : 10 ^ (d.take k).length ≤ 10 ^ 18 := Nat.pow_le_pow_right (by omega) h2
  omega
theorem dec_lt19 (d : List UInt8) (hl : d.length ≤ 19) (h : d.all isDg = true) : decV d < 10000000000000000000 := by
  have h1 := decV_lt _ h
  have h3 : 10 ^ d.length ≤ 10 ^ 19 := Nat.pow_le_pow_right (by omega) hl
  omega
theorem neg64 (n : Nat) (h : n ≤ 9223372036854775808) : wrap64 (IntKind.u64.wrap (bits .xor .u64 IntKind.u64.max (n : Int) + 1)) = -(n : Int) := by
  have e2 : IntKind.u64.max = ((2 ^ 64 - 1 : Nat) : Int) := by decide
  rw [e2, bits_xor_u64_nat _ _ (by decide) (by omega), Lib.xor_ones64 _ (by omega), IntKind.wrap_u64]
  unfold wrap64
  omega
def NumP (o : Option Int) (e : Ending) : Prop := ∃ z b, e = .returned (.tuple #[.int .i64 z, .bool b]) ∧ NumR o z b
theorem numP_no {m : Bool} {d : List UInt8} (h : okNum m d = false) : NumP (numD m d) (.returned (.tuple #[.int .i64 0, .bool false])) := ⟨0, false, rfl, numR_no m d h⟩
theorem numP_plain {d : List UInt8} {n : Nat} (h : okNum false d = true ∧ decV d = n) (z : Int) (b : Bool) (e : Ending) (he : e = .returned (.tuple #[.int .i64 z, .bool b])) (hz : n < 9223372036854775808 → z = n) (hb : b = decide (n < 9223372036854775808)) : NumP (numD false d) e := by
  refine ⟨z, b, he, ?_⟩
  unfold numD NumR
  rw [h.1, if_pos rfl, if_neg (by simp), h.2]
  by_cases hn : n < 9223372036854775808
  · rw [if_pos hn, hb, decide_eq_true hn]
    exact ⟨rfl, fun z' hz' => by rw [hz hn]; exact Option.some.inj hz'⟩
  · rw [if_neg hn, hb, decide_eq_false hn]
    exact ⟨rfl, fun z' hz' => by cases hz'⟩
theorem numP_minus {d : List UInt8} {n : Nat} (h : okNum true d = true ∧ decV d = n) (z : Int) (b : Bool) (e : Ending) (he : e = .returned (.tuple #[.int .i64 z, .bool b])) (hz : n ≤ 9223372036854775808 → z = -(n : Int)) (hb : b = decide (n ≤ 9223372036854775808)) : NumP (numD true d) e := by
  refine ⟨z, b, he, ?_⟩
  unfold numD NumR
  rw [h.1, if_pos rfl, if_pos rfl, h.2]
  by_cases hn : n ≤ 9223372036854775808
  · rw [if_pos hn, hb, decide_eq_true hn]
    exact ⟨rfl, fun z' hz' => by rw [hz hn]; exact Option.some.inj hz'⟩
  · rw [if_neg hn, hb, decide_eq_false hn]
    exact ⟨rfl, fun z' hz' => by cases hz'⟩

set_option maxRecDepth 100000 in
set_option maxHeartbeats 1600000 in
theorem rnum_short (D : ByteArray) (w : World) (hs : D.size ≤ 9223372036854775807) (h1 : D.size ≤ 1) :
    Calls Tryz.prog 31 #[.string D] w fun e w' => NumP (numD false D.data.toList) e ∧ w' = w := by
  have HLn : Hid (D.data.toList.length = D.size) := Array.length_toList
  have Hdig : Hid (∀ k (h : k < D.size), (D[k].toNat < 48 ∨ 57 < D[k].toNat) → okNum false D.data.toList = false) := by
    intro k h h2
    refine okNum_dig false D.data.toList k (by rw [HLn.out]; exact h) ?_
    rw [sget D k h]
    exact decide_eq_false (by omega)
  have Hall : Hid (∀ k (h : k < D.size), (48 ≤ D[k].toNat ∧ D[k].toNat ≤ 57) → (D.data.toList.take k).all isDg = true → decV (D.data.toList.take (k + 1)) = 10 * decV (D.data.toList.take k) + (D[k].toNat - 48) ∧ (D.data.toList.take (k + 1)).all isDg = true) := by
    intro k h h2 h3
    have hk : k < D.data.toList.length := by rw [HLn.out]; exact h
    refine ⟨by rw [dec_take D.data.toList k hk, sget D k h], ?_⟩
    rw [List.take_succ_eq_append_getElem hk, List.all_append, h3, sget D k h]
    simp only [List.all_cons, List.all_nil, Bool.and_true, Bool.true_and]
    exact decide_eq_true h2
  have HNo : Hid True := trivial
  have HyesA : Hid (∀ k, k = D.size → (D.data.toList.take k).all isDg = true → D.size ≤ 19 → 1 ≤ D.size → (D.data.toList.headD 0 = 48 → D.size ≤ 1 ∧ false = false) → (okNum false D.data.toList = true ∧ decV D.data.toList = decV (D.data.toList.take k)) ∧ decV (D.data.toList.take k) < 10000000000000000000) := by
    intro k hk ha h19 h1 hh
    have e : D.data.toList.take k = D.data.toList := List.take_of_length_le (by rw [HLn.out]; omega)
    rw [e] at ha ⊢
    exact ⟨⟨okNum_yes _ _ (by rw [HLn.out]; exact h1) (by rw [HLn.out]; exact h19) (by rw [HLn.out]; exact hh) ha, rfl⟩, dec_lt19 _ (by rw [HLn.out]; exact h19) ha⟩
  by_cases b0 : D.size < 1
  · have b0i : (D.size : Int) < 1 := by omega
    have Hn := hide (numP_no (okNum_len0 false D.data.toList (by rw [HLn.out]; exact b0)))
    clear HNo HLn Hdig Hall HyesA
    go_enter Tryz.func31, Tryz.ntmps31
    go_wp2
    go_ret2
    exact ⟨Hn.out, rfl⟩
  · have h1i : (D.size : Int) ≤ 1 := by omega
    have hpos : 0 < D.size := by omega
    have HN2 := hide HLn.out
    have Hyes := hide (fun k h1 h2 => HyesA.out k h1 h2 (by omega) (by omega) (fun _ => ⟨by omega, rfl⟩))
    clear HyesA
    by_cases b1 : ((D[0].toNat : Int) == 48) = true
    · have b1i := b1
      clear b1
      go_enter Tryz.func31, Tryz.ntmps31
      go_wp2_with fail
      go_loop [5, 6] (fun n t => ∃ k : Nat, k ≤ D.size ∧ t = .int .i64 k ∧ n = .int .u64 ((decV (D.data.toList.take k) : Nat) : Int) ∧ Hid ((D.data.toList.take k).all isDg = true)) (fun _ t => D.size - (intOf t).toNat)
      case atStart => exact ⟨0, Nat.zero_le _, rfl, rfl, rfl⟩
      case round =>
        obtain ⟨k, hk, rfl, rfl, HK⟩ := hrel
        by_cases hlt : k < D.size
        · have hki : (k : Int) < (D.size : Int) := by omega
          have Hd := hide (Hdig.out k hlt)
          have Hsm := hide (dec_small19 D.data.toList k (by omega) HK.out)
          have Htk := hide (Hall.out k hlt)
          have hx := D[k].toNat_lt
          by_cases a1 : (D[k].toNat : Int) < 48
          · have Hz := hide (Hd.out (by omega))
            clear Hd Htk HNo Hyes
            go_wp2
            go_ret2
            exact ⟨numP_no Hz.out, rfl⟩
          · by_cases a2 : 57 < (D[k].toNat : Int)
            · have Hz := hide (Hd.out (by omega))
              clear Hd Htk HNo Hyes
              go_wp2
              go_ret2
              exact ⟨numP_no Hz.out, rfl⟩
            · have Hst := hide (Htk.out (by omega) HK.out)
              have Hsm2 := Hsm.out
              clear Hd Htk HNo Hyes
              generalize decV (D.data.toList.take k) = n at *
              have m1 : IntKind.u64.wrap (10 * (n : Int)) = 10 * n := by rw [IntKind.wrap_u64]; omega
              have m2 : IntKind.u8.wrap ((D[k].toNat : Int) - 48) = (D[k].toNat : Int) - 48 := by rw [IntKind.wrap_u8]; omega
              have m3 : IntKind.u64.wrap ((D[k].toNat : Int) - 48) = (D[k].toNat : Int) - 48 := by rw [IntKind.wrap_u64]; omega
              have m4 : IntKind.u64.wrap (10 * (n : Int) + ((D[k].toNat : Int) - 48)) = 10 * (n : Int) + ((D[k].toNat : Int) - 48) := by rw [IntKind.wrap_u64]; omega
              go_wp2_with fail
              go_round
              case rel => exact ⟨k + 1, by omega, by go_num, congrArg (Value.int .u64) (by rw [Hst.out.1]; omega), Hst.out.2⟩
              case measure => simp [intOf]; omega
        · have Hf := hide (Hyes.out k (by omega) HK.out)
          have hlt19 := Hf.out.2
          clear HNo Hdig Hall Hyes
          generalize decV (D.data.toList.take k) = n at *
          have Hr := hide (numP_plain Hf.out.1)
          by_cases a1 : (n : Int) < 9223372036854775808
          · go_wp2
            go_ret2
            exact ⟨Hr.out _ _ _ rfl (by go_num) (by simp; omega), rfl⟩
          · go_wp2
            go_ret2
            exact ⟨Hr.out _ _ _ rfl (by go_num) (by simp; omega), rfl⟩
    · have b1i : ((D[0].toNat : Int) == 48) = false := by simpa using b1
      clear b1
      go_enter Tryz.func31, Tryz.ntmps31
      go_wp2_with fail
      go_loop [5, 6] (fun n t => ∃ k : Nat, k ≤ D.size ∧ t = .int .i64 k ∧ n = .int .u64 ((decV (D.data.toList.take k) : Nat) : Int) ∧ Hid ((D.data.toList.take k).all isDg = true)) (fun _ t => D.size - (intOf t).toNat)
      case atStart => exact ⟨0, Nat.zero_le _, rfl, rfl, rfl⟩
      case round =>
        obtain ⟨k, hk, rfl, rfl, HK⟩ := hrel
        by_cases hlt : k < D.size
        · have hki : (k : Int) < (D.size : Int) := by omega
          have Hd := hide (Hdig.out k hlt)
          have Hsm := hide (dec_small19 D.data.toList k (by omega) HK.out)
          have Htk := hide (Hall.out k hlt)
          have hx := D[k].toNat_lt
          by_cases a1 : (D[k].toNat : Int) < 48
          · have Hz := hide (Hd.out (by omega))
            clear Hd Htk HNo Hyes
            go_wp2
            go_ret2
            exact ⟨numP_no Hz.out, rfl⟩
          · by_cases a2 : 57 < (D[k].toNat : Int)
            · have Hz := hide (Hd.out (by omega))
              clear Hd Htk HNo Hyes
              go_wp2
              go_ret2
              exact ⟨numP_no Hz.out, rfl⟩
            · have Hst := hide (Htk.out (by omega) HK.out)
              have Hsm2 := Hsm.out
              clear Hd Htk HNo Hyes
              generalize decV (D.data.toList.take k) = n at *
              have m1 : IntKind.u64.wrap (10 * (n : Int)) = 10 * n := by rw [IntKind.wrap_u64]; omega
              have m2 : IntKind.u8.wrap ((D[k].toNat : Int) - 48) = (D[k].toNat : Int) - 48 := by rw [IntKind.wrap_u8]; omega
              have m3 : IntKind.u64.wrap ((D[k].toNat : Int) - 48) = (D[k].toNat : Int) - 48 := by rw [IntKind.wrap_u64]; omega
              have m4 : IntKind.u64.wrap (10 * (n : Int) + ((D[k].toNat : Int) - 48)) = 10 * (n : Int) + ((D[k].toNat : Int) - 48) := by rw [IntKind.wrap_u64]; omega
              go_wp2_with fail
              go_round
              case rel => exact ⟨k + 1, by omega, by go_num, congrArg (Value.int .u64) (by rw [Hst.out.1]; omega), Hst.out.2⟩
              case measure => simp [intOf]; omega
        · have Hf := hide (Hyes.out k (by omega) HK.out)
          have hlt19 := Hf.out.2
          clear HNo Hdig Hall Hyes
          generalize decV (D.data.toList.take k) = n at *
          have Hr := hide (numP_plain Hf.out.1)
          by_cases a1 : (n : Int) < 9223372036854775808
          · go_wp2
            go_ret2
            exact ⟨Hr.out _ _ _ rfl (by go_num) (by simp; omega), rfl⟩
          · go_wp2
            go_ret2
            exact ⟨Hr.out _ _ _ rfl (by go_num) (by simp; omega), rfl⟩

set_option maxRecDepth 100000 in
set_option maxHeartbeats 1600000 in
theorem rnum_plain (D : ByteArray) (w : World) (hs : D.size ≤ 9223372036854775807) (h1d : 1 < D.size) (h45 : D[0] ≠ 45) :
    Calls Tryz.prog 31 #[.string D] w fun e w' => NumP (numD false D.data.toList) e ∧ w' = w := by
  have HLn : Hid (D.data.toList.length = D.size) := Array.length_toList
  have Hdig : Hid (∀ k (h : k < D.size), (D[k].toNat < 48 ∨ 57 < D[k].toNat) → okNum false D.data.toList = false) := by
    intro k h h2
    refine okNum_dig false D.data.toList k (by rw [HLn.out]; exact h) ?_
    rw [sget D k h]
    exact decide_eq_false (by omega)
  have Hall : Hid (∀ k (h : k < D.size), (48 ≤ D[k].toNat ∧ D[k].toNat ≤ 57) → (D.data.toList.take k).all isDg = true → decV (D.data.toList.take (k + 1)) = 10 * decV (D.data.toList.take k) + (D[k].toNat - 48) ∧ (D.data.toList.take (k + 1)).all isDg = true) := by
    intro k h h2 h3
    have hk : k < D.data.toList.length := by rw [HLn.out]; exact h
    refine ⟨by rw [dec_take D.data.toList k hk, sget D k h], ?_⟩
    rw [List.take_succ_eq_append_getElem hk, List.all_append, h3, sget D k h]
    simp only [List.all_cons, List.all_nil, Bool.and_true, Bool.true_and]
    exact decide_eq_true h2
  have HNo : Hid True := trivial
  have HyesA : Hid (∀ k, k = D.size → (D.data.toList.take k).all isDg = true → D.size ≤ 19 → 1 ≤ D.size → (D.data.toList.headD 0 = 48 → D.size ≤ 1 ∧ false = false) → (okNum false D.data.toList = true ∧ decV D.data.toList = decV (D.data.toList.take k)) ∧ decV (D.data.toList.take k) < 10000000000000000000) := by
    intro k hk ha h19 h1 hh
    have e : D.data.toList.take k = D.data.toList := List.take_of_length_le (by rw [HLn.out]; omega)
    rw [e] at ha ⊢
    exact ⟨⟨okNum_yes _ _ (by rw [HLn.out]; exact h1) (by rw [HLn.out]; exact h19) (by rw [HLn.out]; exact hh) ha, rfl⟩, dec_lt19 _ (by rw [HLn.out]; exact h19) ha⟩
  have h1i : (1 : Int) < (D.size : Int) := by omega
  have h45i : ((D[0].toNat : Int) == 45) = false := by rw [beq_eq_false_iff_ne]; intro h; exact h45 (UInt8.toNat_inj.1 (by show D[0].toNat = 45; omega))
  clear h45
  by_cases b1 : 19 < D.size
  · have b1i : (19 : Int) < (D.size : Int) := by omega
    have Hn := hide (numP_no (okNum_len19 false D.data.toList (by rw [HLn.out]; exact b1)))
    clear HNo HLn Hdig Hall HyesA
    go_enter Tryz.func31, Tryz.ntmps31
    go_wp2
    go_ret2
    exact ⟨Hn.out, rfl⟩
  · by_cases b2 : D[0] = 48
    · have b2i : ((D[0].toNat : Int) == 48) = true := by rw [b2]; rfl
      have Hn := hide (numP_no (okNum_head false D.data.toList (by rw [head_of D (by omega)]; exact b2) (.inl (by rw [HLn.out]; exact h1d))))
      clear HNo HLn Hdig Hall HyesA
      go_enter Tryz.func31, Tryz.ntmps31
      go_wp2
      go_ret2
      exact ⟨Hn.out, rfl⟩
    · have b2i : ((D[0].toNat : Int) == 48) = false := by rw [beq_eq_false_iff_ne]; intro h; exact b2 (UInt8.toNat_inj.1 (by show D[0].toNat = 48; omega))
      have Hyes := hide (fun k h1 h2 => HyesA.out k h1 h2 (by omega) (by omega) (fun h => absurd (by rw [head_of D (by omega)] at h; exact h) b2))
      clear HyesA
      clear b2
      go_enter Tryz.func31, Tryz.ntmps31
      go_wp2_with fail
      go_loop [5, 6] (fun n t => ∃ k : Nat, k ≤ D.size ∧ t = .int .i64 k ∧ n = .int .u64 ((decV (D.data.toList.take k) : Nat) : Int) ∧ Hid ((D.data.toList.take k).all isDg = true)) (fun _ t => D.size - (intOf t).toNat)
      case atStart => exact ⟨0, Nat.zero_le _, rfl, rfl, rfl⟩
      case round =>
        obtain ⟨k, hk, rfl, rfl, HK⟩ := hrel
        by_cases hlt : k < D.size
        · have hki : (k : Int) < (D.size : Int) := by omega
          have Hd := hide (Hdig.out k hlt)
          have Hsm := hide (dec_small19 D.data.toList k (by omega) HK.out)
          have Htk := hide (Hall.out k hlt)
          have hx := D[k].toNat_lt
          by_cases a1 : (D[k].toNat : Int) < 48
          · have Hz := hide (Hd.out (by omega))
            clear Hd Htk HNo Hyes
            go_wp2
            go_ret2
            exact ⟨numP_no Hz.out, rfl⟩
          · by_cases a2 : 57 < (D[k].toNat : Int)
            · have Hz := hide (Hd.out (by omega))
              clear Hd Htk HNo Hyes
              go_wp2
              go_ret2
              exact ⟨numP_no Hz.out, rfl⟩
            · have Hst := hide (Htk.out (by omega) HK.out)
              have Hsm2 := Hsm.out
              clear Hd Htk HNo Hyes
              generalize decV (D.data.toList.take k) = n at *
              have m1 : IntKind.u64.wrap (10 * (n : Int)) = 10 * n := by rw [IntKind.wrap_u64]; omega
              have m2 : IntKind.u8.wrap ((D[k].toNat : Int) - 48) = (D[k].toNat : Int) - 48 := by rw [IntKind.wrap_u8]; omega
              have m3 : IntKind.u64.wrap ((D[k].toNat : Int) - 48) = (D[k].toNat : Int) - 48 := by rw [IntKind.wrap_u64]; omega
              have m4 : IntKind.u64.wrap (10 * (n : Int) + ((D[k].toNat : Int) - 48)) = 10 * (n : Int) + ((D[k].toNat : Int) - 48) := by rw [IntKind.wrap_u64]; omega
              go_wp2_with fail
              go_round
              case rel => exact ⟨k + 1, by omega, by go_num, congrArg (Value.int .u64) (by rw [Hst.out.1]; omega), Hst.out.2⟩
              case measure => simp [intOf]; omega
        · have Hf := hide (Hyes.out k (by omega) HK.out)
          have hlt19 := Hf.out.2
          clear HNo Hdig Hall Hyes
          generalize decV (D.data.toList.take k) = n at *
          have Hr := hide (numP_plain Hf.out.1)
          by_cases a1 : (n : Int) < 9223372036854775808
          · go_wp2
            go_ret2
            exact ⟨Hr.out _ _ _ rfl (by go_num) (by simp; omega), rfl⟩
          · go_wp2
            go_ret2
            exact ⟨Hr.out _ _ _ rfl (by go_num) (by simp; omega), rfl⟩

set_option maxRecDepth 100000 in
set_option maxHeartbeats 1600000 in
theorem rnum_minus (s D : ByteArray) (w : World) (hs : s.size ≤ 9223372036854775807) (h1s : 1 < s.size) (h45 : s[0] = 45) (hD : s.extract 1 s.size = D) (hDs : D.size = s.size - 1) :
    Calls Tryz.prog 31 #[.string s] w fun e w' => NumP (numD true D.data.toList) e ∧ w' = w := by
  have HLn : Hid (D.data.toList.length = D.size) := Array.length_toList
  have Hdig : Hid (∀ k (h : k < D.size), (D[k].toNat < 48 ∨ 57 < D[k].toNat) → okNum true D.data.toList = false) := by
    intro k h h2
    refine okNum_dig true D.data.toList k (by rw [HLn.out]; exact h) ?_
    rw [sget D k h]
    exact decide_eq_false (by omega)
  have Hall : Hid (∀ k (h : k < D.size), (48 ≤ D[k].toNat ∧ D[k].toNat ≤ 57) → (D.data.toList.take k).all isDg = true → decV (D.data.toList.take (k + 1)) = 10 * decV (D.data.toList.take k) + (D[k].toNat - 48) ∧ (D.data.toList.take (k + 1)).all isDg = true) := by
    intro k h h2 h3
    have hk : k < D.data.toList.length := by rw [HLn.out]; exact h
    refine ⟨by rw [dec_take D.data.toList k hk, sget D k h], ?_⟩
    rw [List.take_succ_eq_append_getElem hk, List.all_append, h3, sget D k h]
    simp only [List.all_cons, List.all_nil, Bool.and_true, Bool.true_and]
    exact decide_eq_true h2
  have HNo : Hid True := trivial
  have HyesA : Hid (∀ k, k = D.size → (D.data.toList.take k).all isDg = true → D.size ≤ 19 → 1 ≤ D.size → (D.data.toList.headD 0 = 48 → D.size ≤ 1 ∧ true = false) → (okNum true D.data.toList = true ∧ decV D.data.toList = decV (D.data.toList.take k)) ∧ decV (D.data.toList.take k) < 10000000000000000000) := by
    intro k hk ha h19 h1 hh
    have e : D.data.toList.take k = D.data.toList := List.take_of_length_le (by rw [HLn.out]; omega)
    rw [e] at ha ⊢
    exact ⟨⟨okNum_yes _ _ (by rw [HLn.out]; exact h1) (by rw [HLn.out]; exact h19) (by rw [HLn.out]; exact hh) ha, rfl⟩, dec_lt19 _ (by rw [HLn.out]; exact h19) ha⟩
  have h1i : (1 : Int) < (s.size : Int) := by omega
  have h45i : ((s[0].toNat : Int) == 45) = true := by rw [h45]; rfl
  clear h45
  have hd1 : 1 ≤ D.size := by omega
  have hdm : D.size ≤ 9223372036854775807 := by omega
  clear hDs
  by_cases b1 : 19 < D.size
  · have b1i : (19 : Int) < (D.size : Int) := by omega
    have Hn := hide (numP_no (okNum_len19 true D.data.toList (by rw [HLn.out]; exact b1)))
    clear HNo HLn Hdig Hall HyesA
    go_enter Tryz.func31, Tryz.ntmps31
    go_wp2
    go_ret2
    exact ⟨Hn.out, rfl⟩
  · by_cases b2 : D[0] = 48
    · have b2i : ((D[0].toNat : Int) == 48) = true := by rw [b2]; rfl
      have Hn := hide (numP_no (okNum_head true D.data.toList (by rw [head_of D (by omega)]; exact b2) (.inr rfl)))
      clear HNo HLn Hdig Hall HyesA b2
      by_cases b3 : 1 < D.size
      · go_enter Tryz.func31, Tryz.ntmps31
        go_wp2
        go_ret2
        exact ⟨Hn.out, rfl⟩
      · go_enter Tryz.func31, Tryz.ntmps31
        go_wp2
        go_ret2
        exact ⟨Hn.out, rfl⟩
    · have b2i : ((D[0].toNat : Int) == 48) = false := by rw [beq_eq_false_iff_ne]; intro h; exact b2 (UInt8.toNat_inj.1 (by show D[0].toNat = 48; omega))
      have Hyes := hide (fun k h1 h2 => HyesA.out k h1 h2 (by omega) (by omega) (fun h => absurd (by rw [head_of D (by omega)] at h; exact h) b2))
      clear HyesA
      clear b2
      go_enter Tryz.func31, Tryz.ntmps31
      go_wp2_with fail
      go_loop [5, 6] (fun n t => ∃ k : Nat, k ≤ D.size ∧ t = .int .i64 k ∧ n = .int .u64 ((decV (D.data.toList.take k) : Nat) : Int) ∧ Hid ((D.data.toList.take k).all isDg = true)) (fun _ t => D.size - (intOf t).toNat)
      case atStart => exact ⟨0, Nat.zero_le _, rfl, rfl, rfl⟩
      case round =>
        obtain ⟨k, hk, rfl, rfl, HK⟩ := hrel
        by_cases hlt : k < D.size
        · have hki : (k : Int) < (D.size : Int) := by omega
          have Hd := hide (Hdig.out k hlt)
          have Hsm := hide (dec_small19 D.data.toList k (by omega) HK.out)
          have Htk := hide (Hall.out k hlt)
          have hx := D[k].toNat_lt
          by_cases a1 : (D[k].toNat : Int) < 48
          · have Hz := hide (Hd.out (by omega))
            clear Hd Htk HNo Hyes
            go_wp2
            go_ret2
            exact ⟨numP_no Hz.out, rfl⟩
          · by_cases a2 : 57 < (D[k].toNat : Int)
            · have Hz := hide (Hd.out (by omega))
              clear Hd Htk HNo Hyes
              go_wp2
              go_ret2
              exact ⟨numP_no Hz.out, rfl⟩
            · have Hst := hide (Htk.out (by omega) HK.out)
              have Hsm2 := Hsm.out
              clear Hd Htk HNo Hyes
              generalize decV (D.data.toList.take k) = n at *
              have m1 : IntKind.u64.wrap (10 * (n : Int)) = 10 * n := by rw [IntKind.wrap_u64]; omega
              have m2 : IntKind.u8.wrap ((D[k].toNat : Int) - 48) = (D[k].toNat : Int) - 48 := by rw [IntKind.wrap_u8]; omega
              have m3 : IntKind.u64.wrap ((D[k].toNat : Int) - 48) = (D[k].toNat : Int) - 48 := by rw [IntKind.wrap_u64]; omega
              have m4 : IntKind.u64.wrap (10 * (n : Int) + ((D[k].toNat : Int) - 48)) = 10 * (n : Int) + ((D[k].toNat : Int) - 48) := by rw [IntKind.wrap_u64]; omega
              go_wp2_with fail
              go_round
              case rel => exact ⟨k + 1, by omega, by go_num, congrArg (Value.int .u64) (by rw [Hst.out.1]; omega), Hst.out.2⟩
              case measure => simp [intOf]; omega
        · have Hf := hide (Hyes.out k (by omega) HK.out)
          have hlt19 := Hf.out.2
          clear HNo Hdig Hall Hyes
          generalize decV (D.data.toList.take k) = n at *
          have Hr := hide (numP_minus Hf.out.1)
          by_cases a1 : (n : Int) ≤ 9223372036854775808
          · go_wp2
            go_ret2
            refine ⟨Hr.out _ _ _ rfl ?_ ?_, rfl⟩
            · intro hz
              exact neg64 n hz
            · exact (decide_eq_true (by omega)).symm
          · go_wp2
            go_ret2
            refine ⟨Hr.out _ _ _ rfl ?_ ?_, rfl⟩
            · intro hz; omega
            · exact (decide_eq_false (by omega)).symm

theorem rnumber_any (s : ByteArray) (w : World) (hs : s.size ≤ maxLen) :
    Calls Tryz.prog 31 #[.string s] w fun e w' => NumP (numW s.data.toList) e ∧ w' = w := by
  unfold maxLen at hs
  have hLs : s.data.toList.length = s.size := Array.length_toList
  rw [numW_D]
  by_cases h1 : 1 < s.size
  · by_cases h2 : s[0] = 45
    · have em : minusW s.data.toList = true := by unfold minusW; rw [hLs, decide_eq_true h1, head_of s (by omega), h2]; rfl
      have ed : digW s.data.toList = (s.extract 1 s.size).data.toList := by
        unfold digW
        rw [em, if_pos rfl, ext_list, List.take_of_length_le (by rw [List.length_drop, hLs]; omega), List.drop_one]
      rw [em, ed]
      exact rnum_minus s _ w (by omega) h1 h2 rfl (by rw [ByteArray.size_extract]; omega)
    · have em : minusW s.data.toList = false := by
        unfold minusW
        rw [head_of s (by omega), show (s[0] == 45) = false by rw [beq_eq_false_iff_ne]; exact h2, Bool.and_false]
      have ed : digW s.data.toList = s.data.toList := by unfold digW; rw [em]; rfl
      rw [em, ed]
      exact rnum_plain s w (by omega) h1 h2
  · have em : minusW s.data.toList = false := by unfold minusW; rw [hLs, decide_eq_false h1]; rfl
    have ed : digW s.data.toList = s.data.toList := by unfold digW; rw [em]; rfl
    rw [em, ed]
    exact rnum_short s w (by omega) (by omega)

end Go.Proofs.YthopmlgfklhagaaGreatDoor
