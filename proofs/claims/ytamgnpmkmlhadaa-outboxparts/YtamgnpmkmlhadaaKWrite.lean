/- Contracts, over the turned program: keys.Write makes a tuple's bytes as the document says, or answers ErrKind. Conditions: those that each theorem states. -/
import Derived.Test.YtamgnpmkmlhadaaVals
import Derived.WalkLawsBesides
import Derived.Deep.CutRange
import Derived.Deep.RegionWith
import Derived.Deep.RegionHeldLaw
namespace Go.Proofs.Ytamgnpmkmlhadaa
open Go.RowKit
set_option linter.unusedVariables false

set_option maxRecDepth 100000 in
set_option maxHeartbeats 400000 in
theorem mayBe_any (x : V) (w : World) :
    Calls Try.prog 62 #[x.val] w fun e w' => e = .returned (.bool (okV x)) ∧ w.grownBy w' none := by
  obtain ⟨k, n, s⟩ := x
  unfold V.val okV
  dsimp only
  by_cases h1 : k = 1
  · subst h1
    go_enter Try.func62, Try.ntmps62
    go_wp2
    go_ret
    exact ⟨by simp, World.grownBy_alloc _ _ _⟩
  · by_cases h2 : k = 2
    · subst h2
      go_enter Try.func62, Try.ntmps62
      go_wp2
      go_ret
      exact ⟨by simp, World.grownBy_alloc _ _ _⟩
    · have e1 : (k == 1) = false := by simp [h1]
      have e2 : (k == 2) = false := by simp [h2]
      go_enter Try.func62, Try.ntmps62
      go_wp2
      go_ret
      exact ⟨by simp [h1, h2], World.grownBy_alloc _ _ _⟩

set_option maxRecDepth 100000 in
set_option maxHeartbeats 400000 in
theorem writeText_any (v : Value) (l : List UInt8) (s : ByteArray) (base : Nat) (w : World) (hs : s.size ≤ maxLen) (hown : Own 5 w base v l) (hb : base ≤ w.heap.size) (hl : l.length + (encT s.data.toList).length ≤ 140737488355328) :
    Calls Try.prog 66 #[v, .string s] w fun e w' => ∃ v', e = .returned v' ∧ Own 5 w' base v' (l ++ encT s.data.toList) ∧ Fr w v w' v' := by
  obtain ⟨i0, hi, hz0, hz1, hz2⟩ := info_parts Try.info5
  unfold maxLen at hs
  have Hl : Hid (l.length + (encT s.data.toList).length ≤ 140737488355328) := hl
  clear hl
  go_enter Try.func66, Try.ntmps66
  go_wp2_with fail
  go_loopw [0, 8] (fun b i wr => ∃ j : Nat, j ≤ s.size ∧ i = .int .i64 j ∧ Own 5 wr base b (l ++ esc (s.data.toList.take j)) ∧ Fr w v wr b) (fun _ i _ => s.size - (intOf i).toNat)
  case atStart => exact ⟨0, Nat.zero_le _, rfl, by simpa [esc] using hown, Fr.refl _ _⟩
  case round =>
    obtain ⟨j, hj, rfl, ho, hf⟩ := hrel
    have hbw : base ≤ wr.heap.size := Nat.le_trans hb hf.1.size
    clear hown
    by_cases hlt : j < s.size
    · have Ht : Hid (esc (s.data.toList.take (j + 1)) = esc (s.data.toList.take j) ++ esc [s[j]]) := by show _ = _; rw [take_snoc s j hlt, esc_append]
      have Hle : Hid ((l ++ esc (s.data.toList.take j)).length + (esc [s[j]]).length ≤ 140737488355328) := by
        have h1 := Hl.out
        have h2 : esc s.data.toList = esc (s.data.toList.take (j + 1)) ++ esc (s.data.toList.drop (j + 1)) := by rw [← esc_append, List.take_append_drop]
        show _ ≤ _
        unfold encT at h1
        rw [h2, Ht.out] at h1
        simp only [List.length_append] at *
        omega
      have Hb1 : Hid ((l ++ esc (s.data.toList.take j)).length + 1 ≤ 140737488355328) := by
        have h1 := Hle.out
        have h2 : 1 ≤ (esc [s[j]]).length := by simp only [esc]; split <;> simp
        show _ ≤ _
        omega
      by_cases hz : s[j] = 0
      · have hz' : ((s[j].toNat : Int) == 0) = true := by simp [hz]
        have He : Hid (esc [s[j]] = [s[j]] ++ [255]) := by show _ = _; rw [hz]; rfl
        have Hb2 : Hid ((l ++ esc (s.data.toList.take j) ++ [s[j]]).length + 1 ≤ 140737488355328) := by
          have h1 := Hle.out
          rw [He.out] at h1
          show _ ≤ _
          simp only [List.length_append, List.length_singleton] at *
          omega
        clear hz
        go_wp2_with (first
          | (at_builtin; refine wpList_append_bytes _ rfl (.tmp 11) (.tmp 15) 58 58 rfl base 5 i0 Try.underlying58 hi hz0 hz1 hz2 u0 _ rfl (ho.alloc _) _ [s[j]] rfl (src_one wr 58 5 Try.underlying58 _ _ rfl) Hb1.out (by simp; omega) ?_; intro v1 w1 ho1 hg1 hv1; have hf1 := (hf.alloc _).step hg1 (by simpa using hv1); clear hg1 hv1)
          | (at_builtin; refine wpList_append_bytes _ rfl (.tmp 21) (.tmp 22) 58 58 rfl base 5 i0 Try.underlying58 hi hz0 hz1 hz2 v1 _ rfl (ho1.alloc _) _ [255] rfl (src_one w1 58 5 Try.underlying58 _ _ rfl) Hb2.out (by have := hf1.1.size; simp; omega) ?_; intro v2 w2 ho2 hg2 hv2))
        go_roundw
        case rel =>
          refine ⟨j + 1, by omega, by go_num, ?_, (hf1.alloc _).step hg2 (by simpa using hv2)⟩
          rw [Ht.out, He.out]
          simpa using ho2
        case measure => simp [intOf]; omega
      · have hz' : ((s[j].toNat : Int) == 0) = false := by
          rw [beq_eq_false_iff_ne]
          intro h
          exact hz (UInt8.toNat_inj.1 (by simpa using h))
        have He : Hid (esc [s[j]] = [s[j]]) := by show _ = _; simp [esc, hz]
        clear hz
        go_wp2_with (first
          | (at_builtin; refine wpList_append_bytes _ rfl (.tmp 11) (.tmp 15) 58 58 rfl base 5 i0 Try.underlying58 hi hz0 hz1 hz2 u0 _ rfl (ho.alloc _) _ [s[j]] rfl (src_one wr 58 5 Try.underlying58 _ _ rfl) Hb1.out (by simp; omega) ?_; intro v1 w1 ho1 hg1 hv1; have hf1 := (hf.alloc _).step hg1 (by simpa using hv1); clear hg1 hv1))
        go_roundw
        case rel =>
          refine ⟨j + 1, by omega, by go_num, ?_, hf1⟩
          rw [Ht.out, He.out]
          simpa using ho1
        case measure => simp [intOf]; omega
    · have Ht : Hid (s.data.toList.take j = s.data.toList) := List.take_of_length_le (by simp; omega)
      have Hb1 : Hid ((l ++ esc (s.data.toList.take j)).length + 2 ≤ 140737488355328) := by
        have h1 := Hl.out
        show _ ≤ _
        rw [Ht.out]
        unfold encT at h1
        simp only [List.length_append] at *
        simp at h1
        omega
      go_wp2_with (at_builtin; refine wpList_append_bytes _ rfl (.tmp 25) (.tmp 26) 58 58 rfl base 5 i0 Try.underlying58 hi hz0 hz1 hz2 u0 _ rfl (ho.alloc _) _ [0, 1] rfl (src_two wr 58 5 Try.underlying58 0 1 _ _ rfl rfl) Hb1.out (by simp; omega) ?_; intro v1 w1 ho1 hg1 hv1)
      go_ret
      refine ⟨_, rfl, ?_, (hf.alloc _).step hg1 (by simpa using hv1)⟩
      rw [Ht.out] at ho1
      unfold encT
      simpa using ho1

theorem wrap_kind (k : Int) (h : k = 1 ∨ k = 2) : IntKind.u64.wrap k = ((k.toNat : Nat) : Int) := by
  rcases h with rfl | rfl <;> rfl
theorem wid1 : wid 1 = 1 := by decide
theorem num1 (v : Value) (l : List UInt8) (c : Nat) (base : Nat) (w : World) (hn : c < 256) (hown : Own 5 w base v l) (hb : base ≤ w.heap.size) (hl : l.length ≤ 140737488355300) :
    Calls Try.prog 29 #[v, .int .u64 c, .int .i64 1] w fun e w' => ∃ v', e = .returned v' ∧ Own 5 w' base v' (l ++ [UInt8.ofNat c]) ∧ Fr w v w' v' := by
  have h := num_any v l c 1 base w (by omega) hown hb hl
  have e : be c (wid 1) = [UInt8.ofNat c] := by
    rw [wid1]
    simp [be]
  rw [e] at h
  exact h
theorem wid8 : wid 8 = 8 := by decide

set_option maxRecDepth 100000 in
set_option maxHeartbeats 400000 in
theorem writeValue_any (v : Value) (l : List UInt8) (x : V) (base : Nat) (w : World) (hx : x.wf) (hk : okV x = true) (hown : Own 5 w base v l) (hb : base ≤ w.heap.size) (hl : l.length + (encV x).length ≤ 1099511627776) :
    Calls Try.prog 63 #[v, x.val] w fun e w' => ∃ v', e = .returned v' ∧ Own 5 w' base v' (l ++ encV x) ∧ Fr w v w' v' := by
  obtain ⟨k, n, s⟩ := x
  obtain ⟨n0, n1, s0⟩ := hx
  dsimp only at n0 n1 s0
  unfold V.val
  dsimp only
  have Hl : Hid (l.length + (encV ⟨k, n, s⟩).length ≤ 1099511627776) := hl
  have Hl0 : Hid (l.length ≤ 140737488355300) := by show _ ≤ _; omega
  rcases (okV_iff _).1 hk with ⟨h1, h2⟩ | ⟨h1, h2⟩
  · dsimp only at h1 h2
    subst h1
    have Hu := up_u64 n n0 n1
    have HU : Hid (IntKind.u64.wrap (IntKind.u64.wrap n + 9223372036854775808) = (up n : Int)) := Hu
    have HU2 : Hid (((up n : Nat) : Int) < 18446744073709551616) := up_lt n n1
    have Hl1 : Hid ((l ++ be 1 (wid 1)).length ≤ 140737488355300) := by show _ ≤ _; rw [List.length_append, be_len, wid1]; omega
    have hV := Vb.new w ⟨1, n, s⟩
    have hvne : ∀ k, v.ownBlock = some k → k ≠ w.heap.size := fun k hk => by have := (hown.lt k hk).2; omega
    have hE : encV ⟨1, n, s⟩ = [1] ++ be (up n) 8 := rfl
    rw [hE]
    clear hl n0 n1 hk Hu hE
    go_enter Try.func63, Try.ntmps63
    go_wp2_with fail
    refine (num1 v l 1 base _ (by omega) (hown.alloc _) (by simp; omega) Hl0.out).mono ?_
    rintro e w1 ⟨v1, rfl, ho1, hf1⟩
    have hV1 := hV.kept hf1.1 (by intro h; exact hvne _ h.symm rfl)
    have c0 := hV1.c0
    have c1 := hV1.c1
    dsimp only at c0 c1
    clear hV hV1
    go_wp2_with fail
    rw [HU.out]
    refine (num_any v1 _ (up n) 8 base w1 HU2.out ho1 (by have := hf1.1.size; simp at this; omega) Hl1.out).mono ?_
    rintro e w2 ⟨v2, rfl, ho2, hf2⟩
    go_wp2
    go_ret
    refine ⟨_, rfl, ?_, ((Fr.refl w v).alloc _).trans (hf1.trans hf2)⟩
    rw [wid8] at ho2
    simpa using ho2
  · dsimp only at h1 h2
    subst h1 h2
    have HL : Hid ((l ++ [2]).length + (encT s.data.toList).length ≤ 140737488355328) := by
      have := Hl.out
      unfold encV at this
      show _ ≤ _
      simp at this
      simp
      omega
    have hV := Vb.new w ⟨2, 0, s⟩
    have hvne : ∀ k, v.ownBlock = some k → k ≠ w.heap.size := fun k hk => by have := (hown.lt k hk).2; omega
    have hE : encV ⟨2, 0, s⟩ = [2] ++ encT s.data.toList := rfl
    rw [hE]
    clear hl n0 n1 hk hE
    go_enter Try.func63, Try.ntmps63
    go_wp2_with fail
    refine (num1 v l 2 base _ (by omega) (hown.alloc _) (by simp; omega) Hl0.out).mono ?_
    rintro e w1 ⟨v1, rfl, ho1, hf1⟩
    have hV1 := hV.kept hf1.1 (by intro h; exact hvne _ h.symm rfl)
    have c0 := hV1.c0
    have c1 := hV1.c2
    dsimp only at c0 c1
    clear hV hV1
    go_wp2_with fail
    refine (writeText_any v1 _ s base w1 s0 ho1 (by have := hf1.1.size; simp at this; omega) HL.out).mono ?_
    rintro e w2 ⟨v2, rfl, ho2, hf2⟩
    go_wp2
    go_ret
    refine ⟨_, rfl, ?_, ((Fr.refl w v).alloc _).trans (hf1.trans hf2)⟩
    simpa using ho2

/-- What Write answers. -/
def wrB (l : List V) : List UInt8 := if l.all okV then encL l else []
def wrE (l : List V) : Int := if l.all okV then 0 else 6

set_option maxRecDepth 100000 in
set_option maxHeartbeats 400000 in
theorem write_any (v : Value) (l : List V) (w : World) (hT : Tup w v l) (hwf : ∀ x ∈ l, x.wf) (hl : (encL l).length ≤ 1099511627776) :
    Calls Try.prog 54 #[v] w fun e w' => e = .returned (.tuple #[.string ⟨(wrB l).toArray⟩, .int .i64 (wrE l)]) ∧ w.grownBy w' none := by
  obtain ⟨a, c, rfl, hc, hm, hL⟩ := hT
  have hlm : l.length ≤ maxLen := Nat.le_trans hc hm
  unfold maxLen at hlm
  have Hl : Hid ((encL l).length ≤ 1099511627776) := hl
  have HL : Hid (∀ i (h : i < l.length), ∃ b off, a = some ⟨b, off, none⟩ ∧ b < w.heap.size ∧
    w.cell? ⟨b, off + i * 3, none⟩ = some (.int .i64 l[i].k) ∧ w.cell? ⟨b, off + i * 3 + 1, none⟩ = some (.int .i64 l[i].n) ∧ w.cell? ⟨b, off + i * 3 + 2, none⟩ = some (.string l[i].s)) := hL
  have Hm : Hid (c ≤ maxLen) := hm
  clear hl hL hm
  go_enter Try.func54, Try.ntmps54
  go_wp2_with fail
  go_loopw [4, 9] (fun b i wr => ∃ j : Nat, j ≤ l.length ∧ i = .int .i64 j ∧ Own 5 wr w.heap.size b (encL (l.take j)) ∧ Hid ((l.take j).all okV = true) ∧ w.grownBy wr none) (fun _ i _ => l.length - (intOf i).toNat)
  case atStart => exact ⟨0, Nat.zero_le _, rfl, by simpa [encL] using Own.nil _ _ _, by show _ = _; simp, World.grownBy.refl _ _⟩
  case round =>
    obtain ⟨j, hj, rfl, ho, Hok, hg⟩ := hrel
    by_cases hlt : j < l.length
    · obtain ⟨b, off, rfl, hb, c0, c1, c2⟩ := HL.out j hlt
      have hs := hg.block b hb (by simp)
      rw [← cell_same hs] at c0 c1 c2
      have hwx := hwf l[j] (List.getElem_mem hlt)
      have Hle : Hid ((encL (l.take j)).length + (encV l[j]).length ≤ 1099511627776) := by
        have h1 := encL_le l (j + 1)
        rw [encL_take l j hlt, List.length_append] at h1
        exact Nat.le_trans h1 Hl.out
      have Htk : Hid (encL (l.take (j + 1)) = encL (l.take j) ++ encV l[j]) := encL_take l j hlt
      have Hall : Hid ((l.take (j + 1)).all okV = okV l[j]) := by
        show _ = _
        rw [List.take_succ_eq_append_getElem hlt, List.all_append, Hok.out]
        simp
      have Hbad : Hid (okV l[j] = false → l.all okV = false) := by
        intro h
        rw [List.all_eq_false]
        exact ⟨l[j], List.getElem_mem hlt, by simp [h]⟩
      generalize l[j] = x at *
      have hV : Vb (wr.alloc (.cells #[.int .i64 x.k, .int .i64 x.n, .string x.s] 24)) wr.heap.size x := Vb.new wr x
      have hgw : w.heap.size ≤ wr.heap.size := hg.size
      clear hs
      by_cases hx : okV x = true
      · go_wp2_with fail
        refine (mayBe_any x _).mono ?_
        rintro e w1 ⟨rfl, hg1⟩
        have hV1 := hV.kept hg1 (by simp)
        have d0 := hV1.c0
        have d1 := hV1.c1
        have d2 := hV1.c2
        have ho1 := (ho.alloc (.cells #[.int .i64 x.k, .int .i64 x.n, .string x.s] 24)).kept hg1 (by cases u4.ownBlock <;> simp)
        have hgg := grown_trans (World.grownBy_alloc wr (.cells #[.int .i64 x.k, .int .i64 x.n, .string x.s] 24) none) hg1 (.inl rfl)
        clear c0 c1 c2 hV hV1 ho hg1
        go_wp2_with fail
        refine (writeValue_any u4 _ x w.heap.size w1 hwx hx ho1 (Nat.le_trans hgw hgg.size) Hle.out).mono ?_
        rintro e w2 ⟨v2, rfl, ho2, hf2⟩
        have hg2 : w.grownBy w2 none := grown_trans (grown_trans hg hgg (.inl rfl)) hf2.1 (by
          cases hu : u4.ownBlock with
          | none => exact .inl rfl
          | some q => exact .inr ⟨q, rfl, (ho1.lt q hu).1⟩)
        go_wp2_with fail
        go_roundw
        case rel => exact ⟨j + 1, by omega, by go_num, by rw [Htk.out]; exact ho2, by show _ = _; rw [Hall.out]; exact hx, hg2⟩
        case measure => simp [intOf]; omega
      · have hx' : okV x = false := by simpa using hx
        have E1 : Hid (wrB l = []) := by show _ = _; unfold wrB; rw [Hbad.out hx']; rfl
        have E2 : Hid (wrE l = 6) := by show _ = _; unfold wrE; rw [Hbad.out hx']; rfl
        clear hx
        go_wp2_with fail
        refine (mayBe_any x _).mono ?_
        rintro e w1 ⟨rfl, hg1⟩
        have hgg := grown_trans (World.grownBy_alloc wr (.cells #[.int .i64 x.k, .int .i64 x.n, .string x.s] 24) none) hg1 (.inl rfl)
        go_wp2
        go_ret2
        rw [E1.out, E2.out]
        exact ⟨rfl, grown_trans hg hgg (.inl rfl)⟩
    · have ej : l.take j = l := List.take_of_length_le (by omega)
      rw [ej] at ho Hok
      have hcv := run_convert_own wr 58 9 5 Try.underlying58 Try.underlying5 Try.underlying9 ho
      clear ho ej
      have E1 : Hid (wrB l = encL l) := by show _ = _; unfold wrB; rw [Hok.out]; rfl
      have E2 : Hid (wrE l = 0) := by show _ = _; unfold wrE; rw [Hok.out]; rfl
      go_wp2
      go_ret2
      rw [E1.out, E2.out]
      exact ⟨rfl, hg⟩

end Go.Proofs.Ytamgnpmkmlhadaa
