/- Contracts, over the turned program: rows.Fits, Key and Write answer as the plain words say. Conditions: those that each theorem states. -/
import Derived.Test.YtiledkdoabdnnabRDefs
namespace Go.Proofs.Ytiledkdoabdnnab
open Go.RowKit
set_option linter.unusedVariables false

theorem grown_cell {w w' : World} {b : Nat} (h : w.grownBy w' none) (hb : b < w.heap.size) (j : Nat) : w'.cell? ⟨b, j, none⟩ = w.cell? ⟨b, j, none⟩ := cell_same (h.block b hb (by simp)) j
theorem Tup.one {w : World} {g : Nat} (x : V) (c0 : w.cell? ⟨g, 0, none⟩ = some (.int .i64 x.k)) (c1 : w.cell? ⟨g, 1, none⟩ = some (.int .i64 x.n)) (c2 : w.cell? ⟨g, 2, none⟩ = some (.string x.s)) (hg : g < w.heap.size) : Tup w (.slice (some ⟨g, 0, none⟩) 1 1) [x] := by
  refine ⟨some ⟨g, 0, none⟩, 1, rfl, Nat.le_refl _, by decide, fun i hi => ⟨g, 0, rfl, hg, ?_⟩⟩
  obtain rfl : i = 0 := by simpa using hi
  exact ⟨c0, c1, c2⟩
theorem encV_small (x : V) (h : x.s.size ≤ 10) : (encL [x]).length ≤ 23 := by
  have e : encL [x] = encV x := by simp [encL]
  rw [e]
  unfold encV
  split
  · simp only [List.length_cons, be_len]; omega
  · have e : x.s.data.toList.length = x.s.size := by rw [Array.length_toList]; rfl
    have := esc_len x.s.data.toList
    simp only [encT, List.length_cons, List.length_append, List.length_nil]
    omega
/-- Does a value fit a kind? -/
def fitV (k : Int) (x : V) : Bool := x.k == k && decide (x.s.size ≤ 10) && okV x
theorem fitV_parts {k : Int} {x : V} (h : fitV k x = true) : x.k = k ∧ x.s.size ≤ 10 ∧ okV x = true := by
  unfold fitV at h
  simp only [Bool.and_eq_true, decide_eq_true_eq, beq_iff_eq] at h
  exact ⟨h.1.1, h.1.2, h.2⟩
theorem wrE_one (x : V) : wrE [x] = if okV x then 0 else 6 := by simp [wrE]
theorem wrB_one (x : V) (h : okV x = true) : wrB [x] = encV x := by simp [wrB, h, encL]

set_option maxRecDepth 100000 in
set_option maxHeartbeats 400000 in
theorem writeKey_any (x : V) (w : World) (hx : x.wf) (hs : x.s.size ≤ 10) :
    Calls Try.prog 23 #[x.val] w fun e w' => e = .returned (.tuple #[.string ⟨(wrB [x]).toArray⟩, .int .i64 (wrE [x])]) ∧ w.grownBy w' none := by
  have Hb : Hid ((encL [x]).length ≤ 1099511627776) := by have := encV_small x hs; show _ ≤ _; omega
  have Hw : Hid (∀ y ∈ [x], y.wf) := by intro y hy; simp at hy; subst hy; exact hx
  have hga := World.grownBy_alloc w (.cells #[.int .i64 x.k, .int .i64 x.n, .string x.s] 38) none
  have hga2 := World.grownBy_alloc (w.alloc (.cells #[.int .i64 x.k, .int .i64 x.n, .string x.s] 38)) (.cells #[.int .i64 x.k, .int .i64 x.n, .string x.s] 38) none
  obtain ⟨B, HB⟩ : ∃ B : ByteArray, Hid ((⟨(wrB [x]).toArray⟩ : ByteArray) = B) := ⟨_, rfl⟩
  obtain ⟨E, HE⟩ : ∃ E : Int, Hid (wrE [x] = E) := ⟨_, rfl⟩
  rw [HB.out, HE.out]
  clear hs hx
  go_enter Try.func23, Try.ntmps23
  unfold V.val
  go_wp2_with fail
  refine (write_any _ [x] _ (Tup.one x (by simp) (by simp) (by simp) (by simp)) Hw.out Hb.out).mono ?_
  rintro e w1 ⟨rfl, hg1⟩
  rw [HB.out, HE.out]
  go_wp2
  go_ret2
  exact ⟨rfl, grown_up (grown_up hga hga2) hg1⟩

set_option maxRecDepth 100000 in
set_option maxHeartbeats 400000 in
theorem valueFits_any (k : Int) (x : V) (w : World) (hx : x.wf) :
    Calls Try.prog 37 #[.int .i64 k, x.val] w fun e w' => e = .returned (.bool (fitV k x)) ∧ w.grownBy w' none := by
  have hV := Vb.new w x
  have hga := World.grownBy_alloc w (.cells #[.int .i64 x.k, .int .i64 x.n, .string x.s] 38) none
  obtain ⟨xk, xn, xs⟩ := x
  have hs0 := hx.s0
  unfold maxLen at hs0
  dsimp only at hs0
  by_cases hk : xk = k
  · by_cases hl : xs.size ≤ 10
    · have hl' : ¬ 10 < (xs.size : Int) := by omega
      have hk' : (xk != k) = false := by simp [hk]
      have He : Hid (fitV k ⟨xk, xn, xs⟩ = okV ⟨xk, xn, xs⟩) := by show _ = _; unfold fitV; simp [hk, hl]
      rw [He.out]
      clear hk
      unfold V.val
      dsimp only
      by_cases ho : okV ⟨xk, xn, xs⟩ = true
      · have HE : Hid (wrE [⟨xk, xn, xs⟩] = 0) := by show _ = _; rw [wrE_one, ho]; rfl
        rw [ho]
        go_enter Try.func37, Try.ntmps37
        go_wp2_with (go_at_call 23; refine (writeKey_any ⟨xk, xn, xs⟩ _ hx hl).mono ?_; rintro e w1 ⟨rfl, hg1⟩; rw [HE.out])
        go_ret
        exact ⟨rfl, grown_up hga hg1⟩
      · have ho' : okV ⟨xk, xn, xs⟩ = false := by simpa using ho
        have HE : Hid (wrE [⟨xk, xn, xs⟩] = 6) := by show _ = _; rw [wrE_one, ho']; rfl
        rw [ho']
        go_enter Try.func37, Try.ntmps37
        go_wp2_with (go_at_call 23; refine (writeKey_any ⟨xk, xn, xs⟩ _ hx hl).mono ?_; rintro e w1 ⟨rfl, hg1⟩; rw [HE.out])
        go_ret
        exact ⟨rfl, grown_up hga hg1⟩
    · have hl' : 10 < (xs.size : Int) := by omega
      have hk' : (xk != k) = false := by simp [hk]
      have He : fitV k ⟨xk, xn, xs⟩ = false := by unfold fitV; simp [hl]
      rw [He]
      clear hk
      unfold V.val
      dsimp only
      go_enter Try.func37, Try.ntmps37
      go_wp2
      go_ret
      exact ⟨rfl, hga⟩
  · have hk' : (xk != k) = true := by simp [hk]
    have He : fitV k ⟨xk, xn, xs⟩ = false := by unfold fitV; simp [hk]
    rw [He]
    unfold V.val
    dsimp only
    go_enter Try.func37, Try.ntmps37
    go_wp2
    go_ret
    exact ⟨rfl, hga⟩

/-- Which error a row has. -/
def fitP (p : Int × V) : Bool := fitV p.1 p.2
def fitE (ks : List Int) (u x : Int) (l : List V) : Int := if rightS ks u x then (if l.length = ks.length then (if (ks.zip l).all fitP then 0 else 6) else 7) else 4
theorem fitE_wrong {ks : List Int} {u x : Int} {l : List V} (h : rightS ks u x = false) : fitE ks u x l = 4 := by simp [fitE, h]
theorem fitE_len {ks : List Int} {u x : Int} {l : List V} (h : rightS ks u x = true) (h2 : l.length ≠ ks.length) : fitE ks u x l = 7 := by simp [fitE, h, h2]
theorem fitE_all {ks : List Int} {u x : Int} {l : List V} (h : rightS ks u x = true) (h2 : l.length = ks.length) : fitE ks u x l = if (ks.zip l).all fitP then 0 else 6 := by simp [fitE, h, h2]
theorem fitE_ok {ks : List Int} {u x : Int} {l : List V} (h : fitE ks u x l = 0) : rightS ks u x = true ∧ l.length = ks.length ∧ (ks.zip l).all fitP = true := by
  unfold fitE at h
  by_cases h1 : rightS ks u x = true
  · rw [if_pos h1] at h
    by_cases h2 : l.length = ks.length
    · rw [if_pos h2] at h
      by_cases h3 : (ks.zip l).all fitP = true
      · exact ⟨h1, h2, h3⟩
      · rw [if_neg h3] at h; omega
    · rw [if_neg h2] at h; omega
  · rw [if_neg h1] at h; omega
theorem fitE_cases (ks : List Int) (u x : Int) (l : List V) : fitE ks u x l = 0 ∨ (fitE ks u x l != 0) = true := by
  unfold fitE
  split
  · split
    · split
      · exact .inl rfl
      · exact .inr rfl
    · exact .inr rfl
  · exact .inr rfl
theorem zip_step (ks : List Int) (l : List V) (j : Nat) (h1 : j < ks.length) (h2 : j < l.length) : (ks.zip l).take (j + 1) = (ks.zip l).take j ++ [(ks[j], l[j])] := by
  have h3 : j < (ks.zip l).length := by rw [List.length_zip]; omega
  rw [List.take_succ_eq_append_getElem h3, List.getElem_zip]
theorem zip_bad (ks : List Int) (l : List V) (j : Nat) (h1 : j < ks.length) (h2 : j < l.length) (h : fitV ks[j] l[j] = false) : (ks.zip l).all fitP = false := by
  have h3 : j < (ks.zip l).length := by rw [List.length_zip]; omega
  rw [List.all_eq_false]
  refine ⟨(ks.zip l)[j], List.getElem_mem h3, ?_⟩
  rw [List.getElem_zip]
  unfold fitP
  simp [h]

set_option maxRecDepth 100000 in
set_option maxHeartbeats 400000 in
theorem fits_row (kv : Value) (ks : List Int) (u x : Int) (v : Value) (l : List V) (w : World) (hK : Kd w kv ks) (hT : Tup w v l) (hwf : ∀ y ∈ l, y.wf) :
    Calls Try.prog 22 #[sval kv u x, v] w fun e w' => e = .returned (.int .i64 (fitE ks u x l)) ∧ w.grownBy w' none := by
  have hga := World.grownBy_alloc w (.cells #[kv, .int .i64 u, .int .i64 x] 24) none
  have hS := Sb.new w kv u x
  have hKa := hK.keptN hga
  have hTa := hT.keptN hga
  unfold sval
  by_cases hr : rightS ks u x = true
  · obtain ⟨a, c, rfl, hc, hm, hL⟩ := hTa
    have hlm : l.length ≤ maxLen := Nat.le_trans hc hm
    obtain ⟨ka, kc, rfl, hkc, hkm, hkL⟩ := hKa
    have hklm : ks.length ≤ maxLen := Nat.le_trans hkc hkm
    unfold maxLen at hlm hklm
    have hKb := hK.keptN hga
    obtain ⟨wa, Ha⟩ : ∃ wa, Hid (wa = w.alloc (.cells #[.slice ka ks.length kc, .int .i64 u, .int .i64 x] 24)) := ⟨_, rfl⟩
    rw [← Ha.out] at hga hS hL hkL hKb
    clear hc hm hkc hkm hT hK
    by_cases hn : l.length = ks.length
    · have hn' : ((l.length : Int) != (ks.length : Int)) = false := by simp [hn]
      have HF : Hid (fitE ks u x l = if (ks.zip l).all fitP then 0 else 6) := fitE_all hr hn
      have Hn : Hid (l.length = ks.length) := hn
      have HZ : Hid ((ks.zip l).length = ks.length) := by show _ = _; rw [List.length_zip]; omega
      clear hn
      go_enter Try.func22, Try.ntmps22
      go_wp2_with fail
      rw [← Ha.out]
      refine (rightS_any _ ks u x _ hKb).mono ?_
      rintro e w1 ⟨rfl, hg1⟩
      rw [hr]
      have hS1 := hS.keptN hg1
      have c0 := hS1.c0
      go_wp2_with fail
      go_loopw [18] (fun i wr => ∃ j : Nat, j ≤ ks.length ∧ i = .int .i64 j ∧ Hid (((ks.zip l).take j).all fitP = true) ∧ wa.grownBy wr none) (fun i _ => ks.length - (intOf i).toNat)
      case atStart => exact ⟨0, Nat.zero_le _, rfl, by show _ = _; simp, hg1⟩
      case round =>
        clear c0 hS1 hg1
        obtain ⟨j, hj, rfl, Hok, hg⟩ := hrel
        by_cases hlt : j < ks.length
        · have hlt2 : j < l.length := by have := Hn.out; omega
          obtain ⟨b, off, rfl, hb, c0, c1, c2⟩ := hL j hlt2
          obtain ⟨kb, koff, rfl, hkb, k0⟩ := hkL j hlt
          have hji : (j : Int) < (ks.length : Int) := by omega
          have hji2 : (j : Int) < (l.length : Int) := by omega
          have Hw : Hid (l[j].wf) := hwf l[j] (List.getElem_mem hlt2)
          have Hst : Hid (((ks.zip l).take (j + 1)).all fitP = fitV ks[j] l[j]) := by
            show _ = _
            rw [zip_step ks l j hlt hlt2, List.all_append, Hok.out]
            simp [fitP]
          have Hbad : Hid (fitV ks[j] l[j] = false → (ks.zip l).all fitP = false) := zip_bad ks l j hlt hlt2
          generalize l[j] = y at *
          generalize ks[j] = k at *
          have s0 : ∀ W : World, wr.grownBy W none → W.cell? ⟨w.heap.size, 0, none⟩ = some (.slice (some ⟨kb, koff, none⟩) ks.length kc) := fun W h => (hS.keptN (grown_up hg h)).c0
          have q0 : ∀ W : World, wr.grownBy W none → W.cell? ⟨kb, koff + j, none⟩ = some (.int .i64 k) := fun W h => (grown_cell (grown_up hg h) hkb _).trans k0
          have d0 : ∀ W : World, wr.grownBy W none → W.cell? ⟨b, off + j * 3, none⟩ = some (.int .i64 y.k) := fun W h => (grown_cell (grown_up hg h) hb _).trans c0
          have d1 : ∀ W : World, wr.grownBy W none → W.cell? ⟨b, off + j * 3 + 1, none⟩ = some (.int .i64 y.n) := fun W h => (grown_cell (grown_up hg h) hb _).trans c1
          have d2 : ∀ W : World, wr.grownBy W none → W.cell? ⟨b, off + j * 3 + 2, none⟩ = some (.string y.s) := fun W h => (grown_cell (grown_up hg h) hb _).trans c2
          have dr : wr.grownBy wr.drew none := ⟨rfl, rfl, rfl, Nat.le_refl _, fun _ _ _ => rfl⟩
          clear hL hkL c0 c1 c2 k0 hb hkb
          generalize w.heap.size = g at *
          by_cases hf : fitV k y = true
          · go_upto_region 8 with fail
            go_region_held_law (fun w' => wr.grownBy w' none) (first | assumption | exact dr) (first
              | (go_at_call 37; refine (valueFits_any k y _ Hw.out).mono ?_; rintro e w2 ⟨rfl, hg2⟩; rw [hf]; have S2 : wr.grownBy w2 none := grown_up (by assumption) hg2))
            go_wp2_with fail
            go_roundw
            case rel => exact ⟨j + 1, by omega, by go_num, by show _ = _; rw [Hst.out]; exact hf, grown_up hg S2⟩
            case measure => simp [intOf]; omega
          · have hf' : fitV k y = false := by simpa using hf
            go_upto_region 8 with fail
            go_region_held_law (fun w' => wr.grownBy w' none) (first | assumption | exact dr) (first
              | (go_at_call 37; refine (valueFits_any k y _ Hw.out).mono ?_; rintro e w2 ⟨rfl, hg2⟩; rw [hf']; have S2 : wr.grownBy w2 none := grown_up (by assumption) hg2))
            go_wp2
            go_ret
            rw [HF.out, Hbad.out hf']
            exact ⟨rfl, grown_up hga (grown_up hg S2)⟩
        · have hji : ¬ (j : Int) < (ks.length : Int) := by omega
          have ej : (ks.zip l).take j = ks.zip l := List.take_of_length_le (by have := HZ.out; omega)
          rw [ej] at Hok
          go_wp2
          go_ret
          rw [HF.out, Hok.out]
          exact ⟨rfl, grown_up hga hg⟩
    · have hn' : ((l.length : Int) != (ks.length : Int)) = true := by simp; omega
      rw [fitE_len hr hn]
      go_enter Try.func22, Try.ntmps22
      go_wp2_with fail
      rw [← Ha.out]
      refine (rightS_any _ ks u x _ hKb).mono ?_
      rintro e w1 ⟨rfl, hg1⟩
      rw [hr]
      have hS1 := hS.keptN hg1
      have c0 := hS1.c0
      go_wp2
      go_ret
      exact ⟨rfl, grown_up hga hg1⟩
  · have hr' : rightS ks u x = false := by simpa using hr
    rw [fitE_wrong hr']
    go_enter Try.func22, Try.ntmps22
    go_wp2_with fail
    refine (rightS_any _ ks u x _ hKa).mono ?_
    rintro e w1 ⟨rfl, hg1⟩
    rw [hr']
    go_wp2
    go_ret
    exact ⟨rfl, grown_up hga hg1⟩

/-- What Key answers. -/
def keyE (ks : List Int) (u x : Int) (y : V) : Int := if rightS ks u x then (if fitV (ks.headD 0) y then 0 else 6) else 4
def keyB (ks : List Int) (u x : Int) (y : V) : List UInt8 := if keyE ks u x y = 0 then encV y else []
theorem head_get (ks : List Int) (h : 0 < ks.length) : ks[0] = ks.headD 0 := by
  cases ks with
  | nil => simp at h
  | cons a l => rfl

/-- A row's rest. -/
def uN (n : Int) : Nat := (n % 18446744073709551616).toNat
theorem uN_wrap (n : Int) : IntKind.u64.wrap n = (uN n : Int) := by rw [IntKind.wrap_u64]; unfold uN; omega
theorem uN_lt (n : Int) : ((uN n : Nat) : Int) < 18446744073709551616 := by unfold uN; omega
def encF (x : V) : List UInt8 := if x.k = 1 then be (uN x.n) 8 else strB x.s.data.toList
def encR (l : List V) : List UInt8 := l.flatMap encF
theorem encF_le (x : V) : (encF x).length ≤ 256 := by
  unfold encF
  split
  · rw [be_len]; omega
  · exact strB_len _
theorem encR_le (l : List V) : (encR l).length ≤ 256 * l.length := by
  induction l with
  | nil => simp [encR]
  | cons x l ih =>
    have e : encR (x :: l) = encF x ++ encR l := by simp [encR]
    have := encF_le x
    rw [e, List.length_append, List.length_cons]
    omega
theorem encR_step (l : List V) (j : Nat) (h : j < l.length) : encR (l.take (j + 1)) = encR (l.take j) ++ encF l[j] := by
  rw [List.take_succ_eq_append_getElem h]
  unfold encR
  rw [List.flatMap_append]
  simp only [List.flatMap_cons, List.flatMap_nil, List.append_nil]

set_option maxRecDepth 100000 in
set_option maxHeartbeats 400000 in
theorem writeRest_any (v : Value) (l : List V) (w : World) (hT : Tup w v l) (hwf : ∀ x ∈ l, x.wf) (h4 : l.length ≤ 4) :
    Calls Try.prog 24 #[v] w fun e w' => e = .returned (.string ⟨(encR l).toArray⟩) ∧ w.grownBy w' none := by
  obtain ⟨a, c, rfl, hc, hm, hL⟩ := hT
  have HL : Hid (∀ i (h : i < l.length), ∃ b off, a = some ⟨b, off, none⟩ ∧ b < w.heap.size ∧
    w.cell? ⟨b, off + i * 3, none⟩ = some (.int .i64 l[i].k) ∧ w.cell? ⟨b, off + i * 3 + 1, none⟩ = some (.int .i64 l[i].n) ∧ w.cell? ⟨b, off + i * 3 + 2, none⟩ = some (.string l[i].s)) := hL
  clear hL hm hc
  go_enter Try.func24, Try.ntmps24
  go_wp2_with fail
  go_loopw [3, 8] (fun b i wr => ∃ j : Nat, j ≤ l.length ∧ i = .int .i64 j ∧ Own 5 wr w.heap.size b (encR (l.take j)) ∧ w.grownBy wr none) (fun _ i _ => l.length - (intOf i).toNat)
  case atStart => exact ⟨0, Nat.zero_le _, rfl, by simpa [encR] using Own.nil _ _ _, World.grownBy.refl _ _⟩
  case round =>
    obtain ⟨j, hj, rfl, ho, hg⟩ := hrel
    by_cases hlt : j < l.length
    · obtain ⟨b, off, rfl, hb, c0, c1, c2⟩ := HL.out j hlt
      rw [← cell_same (hg.block b hb (by simp))] at c0 c1 c2
      have hwx := hwf l[j] (List.getElem_mem hlt)
      have Hle : Hid ((encR (l.take j)).length ≤ 140737488355072) := by
        have h1 := encR_le (l.take j)
        have h2 : (l.take j).length ≤ 4 := by rw [List.length_take]; omega
        show _ ≤ _
        omega
      have Htk : Hid (encR (l.take (j + 1)) = encR (l.take j) ++ encF l[j]) := encR_step l j hlt
      have hji : (j : Int) < (l.length : Int) := by omega
      generalize l[j] = x at *
      have hV : Vb (wr.alloc (.cells #[.int .i64 x.k, .int .i64 x.n, .string x.s] 38)) wr.heap.size x := Vb.new wr x
      have hgw : w.heap.size ≤ wr.heap.size := hg.size
      have hga := grown_up hg (World.grownBy_alloc wr (.cells #[.int .i64 x.k, .int .i64 x.n, .string x.s] 38) none)
      have hoa := ho.alloc (.cells #[.int .i64 x.k, .int .i64 x.n, .string x.s] 38)
      have hbs : w.heap.size ≤ (wr.alloc (.cells #[.int .i64 x.k, .int .i64 x.n, .string x.s] 38)).heap.size := hga.size
      have hrow : ∀ k, u3.ownBlock = some k → w.heap.size ≤ k := fun k hk => (ho.lt k hk).1
      clear ho hg
      by_cases hk : x.k = 1
      · have hk' : (x.k == 1) = true := by simp [hk]
        have HF : Hid (encF x = be (uN x.n) (wid 8)) := by show _ = _; unfold encF; rw [if_pos hk, wid8]
        have HU : Hid (IntKind.u64.wrap x.n = (uN x.n : Int)) := uN_wrap x.n
        clear hk
        go_wp2_with fail
        rw [HU.out]
        refine (num_any u3 _ (uN x.n) 8 w.heap.size _ (uN_lt _) hoa hbs (by have := Hle.out; omega)).mono ?_
        rintro e w2 ⟨v2, rfl, ho2, hf2⟩
        have hg2 : w.grownBy w2 none := grown_new hga hf2.1 hrow
        go_wp2_with fail
        go_roundw
        case rel => exact ⟨j + 1, by omega, by go_num, by rw [Htk.out, HF.out]; exact ho2, hg2⟩
        case measure => simp [intOf]; omega
      · have hk' : (x.k == 1) = false := by simp [hk]
        have HF : Hid (encF x = strB x.s.data.toList) := by show _ = _; unfold encF; rw [if_neg hk]
        clear hk
        go_wp2_with fail
        refine (str_any u3 _ x.s w.heap.size _ hwx.s0 hoa hbs Hle.out).mono ?_
        rintro e w2 ⟨v2, rfl, ho2, hf2⟩
        have hg2 : w.grownBy w2 none := grown_new hga hf2.1 hrow
        go_wp2_with fail
        go_roundw
        case rel => exact ⟨j + 1, by omega, by go_num, by rw [Htk.out, HF.out]; exact ho2, hg2⟩
        case measure => simp [intOf]; omega
    · have ej : l.take j = l := List.take_of_length_le (by omega)
      rw [ej] at ho
      have hcv := run_convert_own wr 44 9 5 Try.underlying44 Try.underlying5 Try.underlying9 ho
      have hji : ¬ (j : Int) < (l.length : Int) := by omega
      clear ho ej
      go_wp2
      go_ret
      exact ⟨rfl, hg⟩

end Go.Proofs.Ytiledkdoabdnnab
