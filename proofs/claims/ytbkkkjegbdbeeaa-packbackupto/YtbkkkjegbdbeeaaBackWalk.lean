/- PackBack, the walk: over the turned program the law PackBack returns true for every list of things whose bytes together are at most 2^40, and turns nothing that was there. -/
import Derived.Test.YtbkkkjegbdbeeaaBack
import Derived.Test.YtbkkkjegbdbeeaaCuts
import Derived.Deep.RegionHeldLaw
import Derived.Deep.CutBlock
namespace Go.Proofs.Ytbkkkjegbdbeeaa.packBack
open Go.RowKit
open packReads (Th Lies)
set_option linter.unusedVariables false

theorem fits_mod (n : Nat) (k : Int) : fitsB (n % 2 ^ (8 * wid k)) k = true := by
  unfold fitsB
  rw [decide_eq_true_iff]
  exact Nat.mod_lt _ (Nat.two_pow_pos _)
theorem back_small (b : Nat) (s : ByteArray) (r : List UInt8) (w : World) (h : Rd w b (mkB (strB s.data.toList ++ r)) 0) (hs : (strB s.data.toList ++ r).length ≤ maxLen) (hc : (s.size : Int) ≤ 255) :
    Calls Try.prog 20 #[.pointer (some ⟨b, 0, none⟩), .int .i64 255] w fun y w' => y = .returned (.string s) ∧ Rd w' b (mkB r) 0 ∧ w.grownBy w' (some b) := by
  have h1 := back_str b s.data.toList r w h hs
  rw [List.take_of_length_le (by rw [len_data]; omega), mkB_self] at h1
  exact h1
theorem back_great (b : Nat) (s : ByteArray) (r : List UInt8) (w : World) (h : Rd w b (mkB (strB s.data.toList ++ r)) 0) (hs : (strB s.data.toList ++ r).length ≤ maxLen) (hc : 255 < (s.size : Int)) :
    Calls Try.prog 20 #[.pointer (some ⟨b, 0, none⟩), .int .i64 255] w fun y w' => y = .returned (.string (s.extract 0 255)) ∧ Rd w' b (mkB r) 0 ∧ w.grownBy w' (some b) := by
  have h1 := back_str b s.data.toList r w h hs
  have e : mkB (s.data.toList.take 255) = s.extract 0 255 := by
    apply ByteArray.ext
    apply Array.ext'
    rw [ext_list, mkB_list]
    simp
  rw [e] at h1
  exact h1
theorem back_whole (b : Nat) (s : ByteArray) (r : List UInt8) (w : World) (h : Rd w b (mkB (s.data.toList ++ r)) 0) (hs : (s.data.toList ++ r).length ≤ maxLen) :
    Calls Try.prog 22 #[.pointer (some ⟨b, 0, none⟩), .int .i64 (s.size : Int)] w fun y w' => y = .returned (.string s) ∧ Rd w' b (mkB r) 0 ∧ w.grownBy w' (some b) := by
  have h1 := back_raw b s.data.toList r w h hs
  rw [mkB_self, len_data] at h1
  exact h1

set_option maxRecDepth 100000 in
set_option maxHeartbeats 4000000 in
theorem walk (b off len cap : Nat) (th : Nat → Th) (w : World) (hlen : len ≤ 9223372036854775807) (hL : Lies w b off len th) (hT : ∀ i, i < len → ((th i).n : Int) < 18446744073709551616 ∧ (th i).s.size ≤ maxLen) (hE : (encTo th len).length ≤ 1099511627776) :
    Calls Try.prog 5 #[.slice (some ⟨b, off, none⟩) len cap] w fun e w' => e = .returned (.bool true) ∧ Below w.heap.size w w' := by
  have HL : Hid (Lies w b off len th) := hL
  have HT : Hid (∀ i, i < len → ((th i).n : Int) < 18446744073709551616 ∧ (th i).s.size ≤ maxLen) := hT
  have HE : Hid (∀ j, j ≤ len → (encTo th j).length ≤ 1099511627776) := fun j hj => Nat.le_trans (enc_le th len j hj) hE
  obtain ⟨i0, hi, hz0, hz1, hz2⟩ := info_parts Try.info5
  clear hL hT hE
  go_enter Try.func5, Try.ntmps5
  go_wp2_with (first | (go_at_call 9; refine (lives_any _).mono ?_; rintro e w1 ⟨rfl, hb1⟩))
  go_loopw [3, 4] (fun v i wr => ∃ j : Nat, j ≤ len ∧ i = .int .i64 j ∧ Own 5 wr w.heap.size v (encTo th j) ∧ Below w.heap.size w wr) (fun _ i _ => len - (intOf i).toNat)
  case atStart => exact ⟨0, Nat.zero_le _, rfl, Own.nil _ _ _, hb1⟩
  case round =>
    clear hb1
    obtain ⟨j, hj, rfl, ho, hb⟩ := hrel
    by_cases hlt : j < len
    · have hlti : (j : Int) < (len : Int) := by omega
      obtain ⟨t0, t1, t2, t3⟩ := HL.out.below hb j hlt
      have hk3 := kind_lt (th j).t
      have HO : Hid (encTo th (j + 1) = encTo th j ++ enc1 (th j)) := rfl
      have Hle : Hid ((encTo th j).length + (enc1 (th j)).length ≤ 1099511627776) := by have := HE.out (j + 1) hlt; show _ ≤ _; simpa [encTo] using this
      go_upto_block 2 with (go_at_call 17; refine (kind_any _ _ _ _ _).mono ?_; rintro x w3 ⟨rfl, hg3⟩)
      have ho3 : Own 5 w3.drew w.heap.size u3 (encTo th j) := (ho.kept hg3 (by cases hv : u3.ownBlock <;> simp) : Own 5 w3 w.heap.size u3 (encTo th j))
      have ho3' : Own 5 w3 w.heap.size u3 (encTo th j) := ho3
      have hb3 := hb.grown hg3 hb.size (by simp)
      clear t0 t1 t2 t3 ho hb hg3
      have hz3 : w.heap.size ≤ w3.heap.size := hb3.size
      have dk : ∀ W : World, Below w.heap.size w W → W.cell? ⟨b, off + j * 4 + 1, none⟩ = some (.int .i64 (th j).k) := fun W h => (HL.out.below h j hlt).2.1
      have dn : ∀ W : World, Below w.heap.size w W → W.cell? ⟨b, off + j * 4 + 2, none⟩ = some (.int .u64 (th j).n) := fun W h => (HL.out.below h j hlt).2.2.1
      have ds : ∀ W : World, Below w.heap.size w W → W.cell? ⟨b, off + j * 4 + 3, none⟩ = some (.string (th j).s) := fun W h => (HL.out.below h j hlt).2.2.2
      have hrow : ∀ k, u3.ownBlock = some k → w.heap.size ≤ k := fun k hk => (ho3'.lt k hk).1
      have Hrow : Hid (∀ k, u3.ownBlock = some k → w.heap.size ≤ k) := hrow
      have Ht := HT.out j hlt
      have HTn : Hid (((th j).n : Int) < 18446744073709551616) := Ht.1
      have HTs : Hid ((th j).s.size ≤ maxLen) := Ht.2
      clear hrow Ht
      rcases (by omega : kindOf (th j).t = 0 ∨ kindOf (th j).t = 1 ∨ kindOf (th j).t = 2) with hk | hk | hk
      · have hk0 : ((kindOf (th j).t : Int) == 0) = true := by simp [hk]
        have He : Hid (enc1 (th j) = be (th j).n (wid (th j).k)) := by show _ = _; simp [enc1, hk]
        have Hl : Hid ((encTo th j).length ≤ 140737488355300) := by have := Hle.out; show _ ≤ _; omega
        clear hk hk3
        go_upto_region 9 with fail
        go_region_held_law (fun w' => Below w.heap.size w w') (first | assumption | exact hb3.drew) (first | (go_at_call 10; refine (num_any u3 _ (th j).n (th j).k w.heap.size _ HTn.out ho3 hz3 Hl.out).mono ?_; rintro x w4 ⟨v4, rfl, ho4, hf4⟩; have S4 : Below w.heap.size w w4 := hf4.below hb3.drew hz3 Hrow.out))
        have Hf : Own 5 w4 w.heap.size v4 (encTo th (j + 1)) := by rw [HO.out, He.out]; exact ho4
        clear ho4 ho3 ho3' dk dn ds hf4
        go_wp2
        go_roundw
        case rel => exact ⟨j + 1, by omega, by go_num, Hf, S4⟩
        case measure => simp [intOf]; omega
      · have hk0 : ((kindOf (th j).t : Int) == 0) = false := by simp [hk]
        have hk1 : ((kindOf (th j).t : Int) == 1) = true := by simp [hk]
        have He : Hid (enc1 (th j) = strB (th j).s.data.toList) := by show _ = _; simp [enc1, hk]
        have Hl : Hid ((encTo th j).length ≤ 140737488355072) := by have := Hle.out; show _ ≤ _; omega
        have d3 := ds w3 hb3
        clear hk hk3 dk dn ds
        go_wp2_with (go_at_call 11; refine (str_any u3 _ (th j).s w.heap.size _ HTs.out ho3' hz3 Hl.out).mono ?_; rintro x w4 ⟨v4, rfl, ho4, hf4⟩)
        have S4 : Below w.heap.size w w4 := hf4.below hb3 hz3 Hrow.out
        have Hf : Own 5 w4 w.heap.size v4 (encTo th (j + 1)) := by rw [HO.out, He.out]; exact ho4
        go_roundw
        case rel => exact ⟨j + 1, by omega, by go_num, Hf, S4⟩
        case measure => simp [intOf]; omega
      · have hk0 : ((kindOf (th j).t : Int) == 0) = false := by simp [hk]
        have hk1 : ((kindOf (th j).t : Int) == 1) = false := by simp [hk]
        have hk2 : ((kindOf (th j).t : Int) == 2) = true := by simp [hk]
        have He : Hid (enc1 (th j) = (th j).s.data.toList) := by show _ = _; simp [enc1, hk]
        have Hl : Hid ((encTo th j).length + (th j).s.data.toList.length ≤ 140737488355328) := by have := Hle.out; rw [He.out] at this; show _ ≤ _; omega
        have d3 := ds w3 hb3
        clear hk hk3 dk dn ds
        go_wp2_with (at_builtin; refine wpList_append_bytes _ rfl (.tmp 48) (.tmp 53) 22 9 rfl w.heap.size 5 i0 Try.underlying22 hi hz0 hz1 hz2 u3 _ rfl ho3' _ _ rfl (src_str _ 9 Try.underlying9 (th j).s) Hl.out hz3 ?_; intro v4 w4 ho4 hg4 hv4)
        have S4 : Below w.heap.size w w4 := hb3.grown hg4 hz3 Hrow.out
        have Hf : Own 5 w4 w.heap.size v4 (encTo th (j + 1)) := by rw [HO.out, He.out]; exact ho4
        go_roundw
        case rel => exact ⟨j + 1, by omega, by go_num, Hf, S4⟩
        case measure => simp [intOf]; omega
    · have e : j = len := by omega
      have ho2 : Own 5 wr w.heap.size u3 (encTo th len) := by rw [← e]; exact ho
      clear ho hlt hj
      have hcv := run_convert_own wr 22 9 5 Try.underlying22 Try.underlying5 Try.underlying9 ho2
      have hge : ¬ (j : Int) < (len : Int) := by omega
      clear e
      have hR : Rd (wr.alloc (.cells #[.string ⟨(encTo th len).toArray⟩, .int .i64 0] 52)) wr.heap.size (mkB (encFrom th len len)) 0 := by
        have h1 := enc_split th len len (Nat.le_refl _)
        rw [Nat.sub_self] at h1
        simp only [encTo, List.nil_append] at h1
        rw [h1]
        exact Rd.new _ _ _
      have hb2 : Below w.heap.size w (wr.alloc (.cells #[.string ⟨(encTo th len).toArray⟩, .int .i64 0] 52)) := hb.alloc hb.size _
      have hzb : w.heap.size ≤ wr.heap.size := hb.size
      go_wp2_with (go_at_call 16; refine (from_any _ _).mono ?_; rintro x w2 ⟨rfl, rfl⟩)
      clear hcv ho2 hb
      generalize (wr.alloc (.cells #[.string ⟨(encTo th len).toArray⟩, .int .i64 0] 52)) = w2 at *
      generalize wr.heap.size = bx at *
      go_loopw [6] (fun i wq => ∃ m : Nat, m ≤ len ∧ i = .int .i64 ((len - m : Nat) : Int) ∧ Rd wq bx (mkB (encFrom th len m)) 0 ∧ Below w.heap.size w wq) (fun i _ => len - (intOf i).toNat)
      case atStart => exact ⟨len, Nat.le_refl _, by simp, hR, hb2⟩
      case round =>
        clear hR hb2
        obtain ⟨m, hm, rfl, hR, hb⟩ := hrel
        rcases Nat.eq_zero_or_pos m with h0 | h0
        · subst h0
          have hge2 : ¬ ((len - 0 : Nat) : Int) < (len : Int) := by omega
          have hR0 : Rd wr bx ByteArray.empty 0 := hR
          go_wp2_with (go_at_call 27; refine (done0 _ _ hR0).mono ?_; rintro x w7 ⟨rfl, rfl⟩)
          go_ret
          exact ⟨rfl, hb⟩
        · obtain ⟨q, rfl⟩ : ∃ q, m = q + 1 := ⟨m - 1, by omega⟩
          obtain ⟨p, hp⟩ : ∃ p, p = len - (q + 1) := ⟨_, rfl⟩
          have Hq : Hid (len - q = p + 1) := by show _ = _; omega
          have hpl : p < len := by omega
          have hpi : (p : Int) < (len : Int) := by omega
          have HR : Hid (Rd wr bx (mkB (enc1 (th p) ++ encFrom th len q)) 0) := by rw [hp]; exact hR
          have Hqm : Hid (q + 1 ≤ len) := hm
          rw [← hp]
          obtain ⟨t0, t1, t2, t3⟩ := HL.out.below hb p hpl
          have hk3 := kind_lt (th p).t
          clear hR hp hm h0
          go_upto_block 5 with (go_at_call 17; refine (kind_any _ _ _ _ _).mono ?_; rintro x w3 ⟨rfl, hg3⟩)
          have hT3 : packCuts.Th w3 wr.heap.size (th p).t (th p).k (th p).n (th p).s := packCuts.Th.kept (heap_alloc_new wr _) hg3 (by simp)
          have hga := World.grownBy_alloc wr (.cells #[.int .i64 (th p).t, .int .i64 (th p).k, .int .u64 (th p).n, .string (th p).s] 25) none
          have hR3 : Rd w3 bx (mkB (enc1 (th p) ++ encFrom th len q)) 0 := (HR.out.kept hga (by simp)).kept hg3 (by simp)
          have hb3 : Below w.heap.size w w3 := (hb.grown hga hb.size (by simp)).grown hg3 (by have := hb.size; simp; omega) (by simp)
          have hzt : w.heap.size ≤ wr.heap.size := hb.size
          have hbt : bx < wr.heap.size := HR.out.lt
          generalize wr.heap.size = bt at *
          clear t0 t1 t2 t3 HR hb hg3 hga
          have Hlen : Hid ((enc1 (th p) ++ encFrom th len q).length ≤ maxLen) := by
            have h1 := enc_split th len (q + 1) Hqm.out
            have h2 := HE.out len (Nat.le_refl _)
            rw [← h1, List.length_append] at h2
            show _ ≤ _
            rw [show len - (q + 1) = p by have := Hq.out; omega] at h2
            simp only [encFrom] at h2
            rw [show len - (q + 1) = p by have := Hq.out; omega] at h2
            unfold maxLen
            omega
          have Ht := HT.out p hpl
          have HTn : Hid (((th p).n : Int) < 18446744073709551616) := Ht.1
          have HTs : Hid ((th p).s.size ≤ maxLen) := Ht.2
          clear Ht
          go_cut [8] from 58 to 122 (fun ok wx => ok = .bool true ∧ Rd wx bx (mkB (encFrom th len q)) 0 ∧ Below w.heap.size w wx)
          case first =>
            rcases (by omega : kindOf (th p).t = 0 ∨ kindOf (th p).t = 1 ∨ kindOf (th p).t = 2) with hk | hk | hk
            · have hk0 : ((kindOf (th p).t : Int) == 0) = true := by simp [hk]
              have He : enc1 (th p) = be (th p).n (wid (th p).k) := by simp [enc1, hk]
              rw [He] at hR3 Hlen
              clear hk hk3 He
              have c1 := hT3.c.2.1
              obtain ⟨N, HN⟩ : ∃ N, Hid (N = (th p).n % 2 ^ (8 * wid (th p).k)) := ⟨_, rfl⟩
              have hfN : fitsB N (th p).k = true := by rw [HN.out]; exact fits_mod _ _
              have HNn : Hid ((N : Int) < 18446744073709551616) := by have h1 := HTn.out; have h2 : N ≤ (th p).n := (by rw [HN.out]; exact Nat.mod_le _ _); show _ < _; omega
              by_cases hf : fitsB (th p).n (th p).k = true
              · have hNe : ((N : Int) == ((th p).n : Int)) = true := by rw [HN.out, Nat.mod_eq_of_lt (of_decide_eq_true hf)]; simp
                go_upto_region 23 with (go_at_call 18; refine (back_num _ _ _ _ _ hR3 Hlen.out).mono ?_; rintro x w4 ⟨rfl, hR4, hg4⟩; rw [← HN.out])
                have hT4 := hT3.kept hg4 (by simp; omega)
                have hb4 := hb3.grown hg4 hb3.size (by simp; omega)
                have c1' := hT4.c.2.1
                have c2' := hT4.c.2.2.1
                clear c1 hT3 hR3 hb3 hg4 Hlen
                go_wp2_with fail
                refine (fits_any N (th p).k _ HNn.out).mono ?_
                rintro x w5 ⟨rfl, hw5⟩
                subst hw5
                go_wp2_with fail
                refine (fits_any (th p).n (th p).k _ HTn.out).mono ?_
                rintro x w6 ⟨rfl, hw6⟩
                subst hw6
                go_wp2_with fail
                go_meet
                exact ⟨rfl, hR4, hb4⟩
              · have hf' : fitsB (th p).n (th p).k = false := by simpa using hf
                clear hf
                go_upto_region 23 with (go_at_call 18; refine (back_num _ _ _ _ _ hR3 Hlen.out).mono ?_; rintro x w4 ⟨rfl, hR4, hg4⟩; rw [← HN.out])
                have hT4 := hT3.kept hg4 (by simp; omega)
                have hb4 := hb3.grown hg4 hb3.size (by simp; omega)
                have c1' := hT4.c.2.1
                have c2' := hT4.c.2.2.1
                clear c1 hT3 hR3 hb3 hg4 Hlen
                go_wp2_with fail
                refine (fits_any N (th p).k _ HNn.out).mono ?_
                rintro x w5 ⟨rfl, hw5⟩
                subst hw5
                go_wp2_with fail
                refine (fits_any (th p).n (th p).k _ HTn.out).mono ?_
                rintro x w6 ⟨rfl, hw6⟩
                subst hw6
                go_wp2_with fail
                go_meet
                exact ⟨rfl, hR4, hb4⟩
            · have hk0 : ((kindOf (th p).t : Int) == 0) = false := by simp [hk]
              have hk1 : ((kindOf (th p).t : Int) == 1) = true := by simp [hk]
              have He : enc1 (th p) = strB (th p).s.data.toList := by simp [enc1, hk]
              rw [He] at hR3 Hlen
              have hT3d : packCuts.Th w3.drew bt (th p).t (th p).k (th p).n (th p).s := hT3
              have hR3d : Rd w3.drew bx (mkB (strB (th p).s.data.toList ++ encFrom th len q)) 0 := hR3
              have hc3 : w3.drew.cell? ⟨bt, 3, none⟩ = some (.string (th p).s) := hT3d.c.2.2.2
              clear hk hk3 He
              by_cases hc : ((th p).s.size : Int) ≤ 255
              · have hcn : ¬ (255 : Int) < ((th p).s.size : Int) := by omega
                have Hc : Hid (((th p).s.size : Int) ≤ 255) := hc
                clear hc
                obtain ⟨z, hz, Hz⟩ : ∃ z : Nat, (th p).s.size = z ∧ Hid (z = (th p).s.size) := ⟨_, rfl, rfl⟩
                rw [hz] at hcn
                have hez : (th p).s.extract 0 z = (th p).s := by rw [← hz]; exact ByteArray.extract_zero_size
                have hmn : (if (255 : Int) < (z : Int) then (255 : Int) else (z : Int)) = (z : Int) := by rw [if_neg hcn]
                go_upto_region 25 with fail
                go_region_held_law (fun w' => w'.cell? ⟨bt, 3, none⟩ = some (.string (th p).s)) (first | assumption) (first
                  | (go_at_call 20; refine (back_small _ _ _ _ hR3d Hlen.out Hc.out).mono ?_; rintro x w4 ⟨rfl, hR4, hg4⟩; have hT4 := (hT3d.kept hg4 (by simp; omega)).c.2.2.2; have hb4 := hb3.drew.grown hg4 hb3.size (by simp; omega)))
                all_goals (go_wp2_with fail; go_meet; exact ⟨rfl, hR4, hb4⟩)
              · have hc' : 255 < ((th p).s.size : Int) := by omega
                have hcn : (255 : Int) ≤ ((th p).s.size : Int) := by omega
                clear hc
                go_upto_region 25 with fail
                go_region_held_law (fun w' => w'.cell? ⟨bt, 3, none⟩ = some (.string (th p).s)) (first | assumption) (first
                  | (go_at_call 20; refine (back_great _ _ _ _ hR3d Hlen.out hc').mono ?_; rintro x w4 ⟨rfl, hR4, hg4⟩; have hT4 := (hT3d.kept hg4 (by simp; omega)).c.2.2.2; have hb4 := hb3.drew.grown hg4 hb3.size (by simp; omega)))
                all_goals (go_wp2_with fail; go_meet; exact ⟨rfl, hR4, hb4⟩)
            · have hk0 : ((kindOf (th p).t : Int) == 0) = false := by simp [hk]
              have hk1 : ((kindOf (th p).t : Int) == 1) = false := by simp [hk]
              have hk2 : ((kindOf (th p).t : Int) == 2) = true := by simp [hk]
              have He : enc1 (th p) = (th p).s.data.toList := by simp [enc1, hk]
              rw [He] at hR3 Hlen
              have hT3d : packCuts.Th w3.drew bt (th p).t (th p).k (th p).n (th p).s := hT3
              have hR3d : Rd w3.drew bx (mkB ((th p).s.data.toList ++ encFrom th len q)) 0 := hR3
              have hc3 : w3.drew.cell? ⟨bt, 3, none⟩ = some (.string (th p).s) := hT3d.c.2.2.2
              clear hk hk3 He
              go_upto_region 27 with fail
              go_region_held_law (fun w' => w'.cell? ⟨bt, 3, none⟩ = some (.string (th p).s)) (first | assumption) (first
                  | (go_at_call 22; refine (back_whole _ _ _ _ hR3d Hlen.out).mono ?_; rintro x w4 ⟨rfl, hR4, hg4⟩; have hT4 := (hT3d.kept hg4 (by simp; omega)).c.2.2.2; have hb4 := hb3.drew.grown hg4 hb3.size (by simp; omega)))
              all_goals (go_wp2_with fail; go_meet; exact ⟨rfl, hR4, hb4⟩)
          case rest =>
          obtain ⟨rfl, hR6, hb6⟩ := hcut
          go_wp2_with (go_at_call 26; refine (err_any _ _ _ _ hR6).mono ?_; rintro x w7 ⟨rfl, rfl⟩)
          go_roundw
          case rel => first | exact ⟨q, by have := Hqm.out; omega, by rw [Hq.out]; go_num, hR6, hb6⟩ | ((repeat apply Exists.intro); exact ⟨⟨q, by have := Hqm.out; omega, by rw [Hq.out]; go_num, hR6, hb6⟩, rfl⟩)
          case measure => simp [intOf]; omega

end Go.Proofs.Ytbkkkjegbdbeeaa.packBack
