/- Contracts, over the turned program: a leaf that is read. Conditions: those that each theorem states. -/
import Derived.Test.YtponhibiomcidaaDoorNRdM
import Derived.Test.YtponhibiomcidaaDoorNApp
import Derived.Test.YtponhibiomcidaaDoorNRes
import Derived.Test.YtponhibiomcidaaDoorNPi
import Derived.Test.YtponhibiomcidaaDoorNOrd
namespace Go.Proofs.YtponhibiomcidaaDoor
open Go Go.RowKit
set_option linter.unusedVariables false

def pr0 : Pr := ⟨⟨#[]⟩, ⟨#[]⟩⟩
theorem made_prs (n : Nat) : (madeCells #[Value.string ⟨#[]⟩, .string ⟨#[]⟩] (n * 2)).toList = prcs (List.replicate n pr0) := by
  refine List.ext_getElem? fun i => ?_
  by_cases h : i < n * 2
  · have e := prcs_at (List.replicate n pr0) (i / 2) (i % 2) (by rw [List.length_replicate]; omega) (by omega)
    rw [show i / 2 * 2 + i % 2 = i by omega] at e
    rw [e, List.getElem_replicate, Array.getElem?_toList]
    unfold madeCells
    rw [Array.getElem?_map, Array.getElem?_range, if_pos h]
    have hm : i % 2 = 0 ∨ i % 2 = 1 := by omega
    rcases hm with h0 | h0 <;> simp [h0, Pr.cells, pr0]
  · rw [List.getElem?_eq_none (by rw [Array.length_toList, size_madeCells]; omega), List.getElem?_eq_none (by rw [prcs_len, List.length_replicate]; omega)]
theorem make_prs (w : World) (n : Nat) (hn : n ≤ 1000000) : ∃ wa, (Instr.makeSlice 23 (.int .u64 n) (.int .u64 n)).run Tryd.prog w = .ok (.slice (some ⟨w.heap.size, 0, none⟩) n n) wa ∧ wa.ownsRow w.heap.size 51 2 (.slice (some ⟨w.heap.size, 0, none⟩) n n) n (prcs (List.replicate n pr0)) ∧ Kp none' w wa := by
  obtain ⟨i0, hi, hz0, hz1, hz2⟩ := info_parts infoPr
  obtain ⟨wa, hmk, hOa, hga⟩ := run_make_full (P := Tryd.prog) w w.heap.size 23 51 i0 _ 2 Tryd.underlying23 hi hz0 hz1 .u64 .u64 n (by rw [hz2]; omega) (by unfold maxLen; omega) (Nat.le_refl _)
  refine ⟨wa, hmk, ?_, Kp.ofN hga _⟩
  rw [← made_prs]
  exact hOa
theorem prcs_rep (m : Nat) : prcs (List.replicate (m + 1) pr0) = .string ⟨#[]⟩ :: .string ⟨#[]⟩ :: prcs (List.replicate m pr0) := by
  rw [List.replicate_succ]
  rfl
theorem set_k (pre : List Value) (a b x : Value) (r : List Value) : (pre ++ a :: b :: r).set pre.length x = pre ++ x :: b :: r := by
  rw [List.set_append_right _ _ (Nat.le_refl _), Nat.sub_self, List.set_cons_zero]
theorem set_v (pre : List Value) (a b x : Value) (r : List Value) : (pre ++ a :: b :: r).set (pre.length + 1) x = pre ++ a :: x :: r := by
  rw [List.set_append_right _ _ (by omega), show pre.length + 1 - pre.length = 1 by omega]
  rfl
/-- A reader, along other calls. -/
theorem Rd.keptK {w w' : World} {b : Nat} {s : ByteArray} {e : Int} {S : Nat → Prop} (h : Rd w b s e) (hk : Kp S w w') (hS : ¬ S b) : Rd w' b s e := by
  unfold Rd
  rw [hk.block b h.lt hS]
  exact h
theorem row_keptK {w w' : World} {base : Nat} {e : TypeId} {sz : Nat} {v : Value} {n : Nat} {cs : List Value} {S : Nat → Prop} (h : w.ownsRow base e sz v n cs) (hk : Kp S w w') (hS : ∀ k, v.ownBlock = some k → ¬ S k) : w'.ownsRow base e sz v n cs := by
  rcases h.2 with ⟨rfl, h0⟩ | ⟨g, cap, cur, rfl, hb, hg, h1, h2, h3, h4⟩
  · exact ⟨h.1, .inl ⟨rfl, h0⟩⟩
  · have hlt : g < w.heap.size := (Array.getElem?_eq_some_iff.1 hg).1
    exact ⟨h.1, .inr ⟨g, cap, cur, rfl, hb, by rw [hk.block g hlt (hS g rfl)]; exact hg, h1, h2, h3, h4⟩⟩
theorem row_cell {w : World} {base g n cap : Nat} {e : TypeId} {sz : Nat} {cs : List Value} (h : w.ownsRow base e sz (.slice (some ⟨g, 0, none⟩) n cap) n cs) (j : Nat) (v : Value) (hj : cs[j]? = some v) : w.cell? ⟨g, j, none⟩ = some v ∧ w.frozen? ⟨g, j, none⟩ = false := by
  have hc := World.ownsRow.cells h (g := g) rfl j v hj
  rw [addr_plainN, Nat.zero_add] at hc
  refine ⟨hc, ?_⟩
  rcases h.2 with ⟨h1, _⟩ | ⟨g', cap', cur, h1, _, hg, _⟩
  · cases h1
  · cases h1
    unfold World.frozen?
    rw [show w.heap[(⟨g, j, none⟩ : Addr).block]? = _ from hg]
    simp
/-- A node is stored whole, in a region that does not draw. -/
theorem nwpList_store_nb' {w : World} {ops : Array Oper} {rest : List Oper} {o : Oper} {a : Act} {Q : Exit → Act → World → Prop} (hgd : o.guard = none) (hd : o.dst = none) (p x : Operand) (ho : o.op = .store 27 p x) (g : Nat) (hp : a.eval p = .pointer (some ⟨g, 0, none⟩)) {l l' : Bool} {pv kv dv : Value} {a1 a2 a3 : Option Addr} {n1 c1 n2 c2 n3 c3 : Nat}
    (hx : a.eval x = .agg #[.bool l', .slice a1 n1 c1, .slice a2 n2 c2, .slice a3 n3 c3]) (hN : Nb w g l pv kv dv)
    (h : ∀ W', Nb W' g l' (.slice a1 n1 c1) (.slice a2 n2 c2) (.slice a3 n3 c3) → Kp (only g) w W' → wpList Tryd.prog ops Q rest a W') : wpList Tryd.prog ops Q (o :: rest) a w := by
  refine wpList_plain hgd fun K hK => ?_
  have := nstep_store_nb (ops := #[]) (K := K) (Q := Q) (E := True) hgd hd p x ho g hp hx hN (fun W' h1 h2 => hK _ _ (h W' h1 h2))
  have hw : Region.wanted o (yielded #[] a.tmps) = true := by simp [Region.wanted, hgd]
  rw [if_pos hw] at this
  exact this
theorem gStr_len (r : Rst) (m : Int) : (gStr r m).size ≤ maxLen := by have := gStr_size r m; unfold maxLen; omega

set_option maxRecDepth 100000 in
set_option maxHeartbeats 1000000 in
theorem readLeaf_any (b : Nat) (c : UInt8) (l : List UInt8) (w : World) (h : Rd w b (mkB (c :: l)) 0) (hl : l.length ≤ 1000) :
    Calls Tryd.prog 30 #[.pointer (some ⟨b, 0, none⟩)] w fun e w' => ∃ a m q, e = .returned (.agg #[.bool true, .slice a m q, .slice none 0 0, .slice none 0 0]) ∧ OwP w' w.heap.size (.slice a m q) (ldP (mkB l, 0) c.toNat) ∧ Rd w' b (ldS (mkB l, 0) c.toNat).1 (ldS (mkB l, 0) c.toNat).2 ∧ Kp (only b) w w' := by
  have hK0 : Kp none' w (w.alloc (.cells #[.bool false, .slice none 0 0, .slice none 0 0, .slice none 0 0] 27)) := Kp.alloc _ _ _
  have n2 := Nb.new w false (.slice none 0 0) (.slice none 0 0) (.slice none 0 0)
  have hR0 := h.keptK hK0 (fun h => h)
  have hbl := h.lt
  obtain ⟨N, HN⟩ : ∃ N, Hid (c.toNat = N) := ⟨_, rfl⟩
  have HN256 : Hid (N < 256) := by rw [← HN.out]; exact UInt8.toNat_lt c
  obtain ⟨r, Hr⟩ : ∃ r : Rst, Hid ((mkB l, 0) = r) := ⟨(mkB l, 0), hide rfl⟩
  have HSZ : Hid (r.1.size ≤ 1000) := by rw [← Hr.out]; show (mkB l).size ≤ _; rw [mkB_size]; exact hl
  have HNum : Hid (∀ W : World, Rd W b (mkB (c :: l)) 0 → Calls Tryd.prog 29 #[.pointer (some ⟨b, 0, none⟩), .int .i64 1] W fun y w' => y = .returned (.int .u64 (N : Int)) ∧ Rd w' b r.1 r.2 ∧ Kp (only b) W w') := by
    intro W hW
    refine (rnum1_cons b c l W hW (by unfold maxLen; simp; omega)).mono ?_
    rintro y w' ⟨rfl, h1, h2⟩
    refine ⟨by rw [HN.out], ?_, Kp.ofGrown h2 (fun k hk _ => by cases hk; rfl)⟩
    rw [← Hr.out]
    exact h1
  rw [HN.out, Hr.out]
  clear h hl
  go_enter Tryd.func30, Tryd.ntmps30
  go_upto_region 1 with fail
  generalize w.alloc (.cells #[.bool false, .slice none 0 0, .slice none 0 0, .slice none 0 0] 27) = w0 at *
  have HLT : Hid (w.heap.size < w0.heap.size) := n2.lt
  have HMK : Hid (∀ W : World, ∃ wa, (Instr.makeSlice 23 (.int .u64 (N : Int)) (.int .u64 (N : Int))).run Tryd.prog W = .ok (.slice (some ⟨W.heap.size, 0, none⟩) N N) wa ∧ wa.ownsRow W.heap.size 51 2 (.slice (some ⟨W.heap.size, 0, none⟩) N N) N (prcs (List.replicate N pr0)) ∧ Kp none' W wa) := fun W => make_prs W N (by have := HN256.out; omega)
  go_upto_region 2 with (first
    | (go_at_call 29; refine (HNum.out _ hR0).mono ?_; rintro e w1 ⟨rfl, hR1, hk1⟩; obtain ⟨wa, hmk, hO, hka⟩ := HMK.out w1)
    | (refine wpList_make_at rfl (.tmp 6) (.tmp 6) 23 rfl _ _ rfl rfl hmk ?_)
    | fail)
  have hRa := hR1.keptK hka (fun h => h)
  have na := (n2.kept hk1 (fun e => by unfold only at e; omega)).kept hka (fun h => h)
  obtain ⟨g, Hg⟩ : ∃ g, Hid (w1.heap.size = g) := ⟨_, rfl⟩
  rw [Hg.out] at hO ⊢
  have HGb : Hid (b < g ∧ w.heap.size < g) := by have := hk1.size; have := Hg.out; have := HLT.out; show _ ∧ _; omega
  have hKa : Kp (only b) w wa := (hK0.nThen hk1).thenN hka
  clear hmk hR1 HNum HMK n2 hR0 hk1 hka
  go_wp2
  go_loopw [4, 10] (fun _ t wr => ∃ j : Nat, j ≤ N ∧ t = .int .i64 j ∧ wr.ownsRow g 51 2 (.slice (some ⟨g, 0, none⟩) N N) N (prcs (ldP r j) ++ prcs (List.replicate (N - j) pr0)) ∧ Rd wr b (ldS r j).1 (ldS r j).2 ∧ Kp (fun k => k = b ∨ k = g) wa wr) (fun _ t _ => N - (intOf t).toNat)
  case atStart => exact ⟨0, Nat.zero_le _, rfl, hO, hRa, Kp.refl _ _⟩
  case round =>
    obtain ⟨j, hj, rfl, hO, hR, hK⟩ := hrel
    by_cases hlt : j < N
    · obtain ⟨m, hm⟩ : ∃ m, N - j = m + 1 := ⟨N - j - 1, by omega⟩
      have Hm : Hid (N - (j + 1) = m) := by show _ = _; omega
      rw [hm, prcs_rep] at hO
      have hpl : (prcs (ldP r j)).length = j * 2 := by rw [prcs_len, ldP_len]
      have hlt' : (j : Int) < (N : Int) := by omega
      have hN256 : N < 256 := HN256.out
      obtain ⟨s, Hs⟩ : ∃ s, Hid (ldS r j = s) := ⟨_, rfl⟩
      have HSs : Hid (s.1.size ≤ maxLen) := by rw [← Hs.out]; have := ldS_size r j; have := HSZ.out; show _ ≤ _; unfold maxLen; omega
      rw [Hs.out] at hR
      have HStr : Hid (∀ W : World, Rd W b s.1 s.2 → Calls Tryd.prog 63 #[.pointer (some ⟨b, 0, none⟩), .int .i64 32] W fun y w' => y = .returned (.string (gStr s 32)) ∧ Rd w' b (sStr s 32).1 (sStr s 32).2 ∧ Kp (only b) W w') := by
        intro W hW
        refine (rstr_any b s.1 s.2 32 W hW HSs.out).mono ?_
        rintro y w' ⟨rfl, h1, h2⟩
        exact ⟨rfl, h1, Kp.ofGrown h2 (fun k hk _ => by cases hk; rfl)⟩
      have HStr2 : Hid (∀ W : World, Rd W b (sStr s 32).1 (sStr s 32).2 → Calls Tryd.prog 63 #[.pointer (some ⟨b, 0, none⟩), .int .i64 40] W fun y w' => y = .returned (.string (gStr (sStr s 32) 40)) ∧ Rd w' b (sStr (sStr s 32) 40).1 (sStr (sStr s 32) 40).2 ∧ Kp (only b) W w') := by
        intro W hW
        refine (rstr_any b _ _ 40 W hW (Nat.le_trans (strS_size _ _ _) HSs.out)).mono ?_
        rintro y w' ⟨rfl, h1, h2⟩
        exact ⟨rfl, h1, Kp.ofGrown h2 (fun k hk _ => by cases hk; rfl)⟩
      have HSn : Hid (ldS r (j + 1) = sStr (sStr s 32) 40 ∧ ldP r (j + 1) = ldP r j ++ [⟨gStr s 32, gStr (sStr s 32) 40⟩]) := by
        refine ⟨?_, ?_⟩
        · show sStr (sStr (ldS r j) 32) 40 = _; rw [Hs.out]
        · show ldP r j ++ [⟨gStr (ldS r j) 32, gStr (sStr (ldS r j) 32) 40⟩] = _; rw [Hs.out]
      obtain ⟨K1, HK1⟩ : ∃ q, Hid (gStr s 32 = q) := ⟨_, rfl⟩
      obtain ⟨V1, HV1⟩ : ∃ q, Hid (gStr (sStr s 32) 40 = q) := ⟨_, rfl⟩
      obtain ⟨s1, Hs1⟩ : ∃ q, Hid (sStr s 32 = q) := ⟨_, rfl⟩
      rw [Hs1.out] at HStr HStr2 HSn HV1
      obtain ⟨s2, Hs2⟩ : ∃ q, Hid (sStr s1 40 = q) := ⟨_, rfl⟩
      rw [HK1.out] at HStr HSn
      rw [HV1.out, Hs2.out] at HStr2 HSn
      obtain ⟨j2, HJ2⟩ : ∃ q, Hid (j * 2 = q) := ⟨_, rfl⟩
      have HAF : Hid (∀ W : World, Kp (only b) wr W → W.ownsRow g 51 2 (.slice (some ⟨g, 0, none⟩) N N) N (prcs (ldP r j) ++ .string ⟨#[]⟩ :: .string ⟨#[]⟩ :: prcs (List.replicate m pr0)) ∧ W.cell? ⟨g, j * 2, none⟩ = some (.string ⟨#[]⟩) ∧ W.frozen? ⟨g, j * 2, none⟩ = false) := by
        intro W hk
        have hO3 := row_keptK hO hk (fun k hk e => by have hg : g = k := Option.some.inj hk; unfold only at e; have := HGb.out; omega)
        have hc := row_cell hO3 (j * 2) (.string ⟨#[]⟩) (by rw [List.getElem?_append_right (by omega), hpl, Nat.sub_self]; rfl)
        exact ⟨hO3, hc.1, hc.2⟩
      have HBF : Hid (∀ W : World, W.ownsRow g 51 2 (.slice (some ⟨g, 0, none⟩) N N) N (prcs (ldP r j) ++ .string ⟨#[]⟩ :: .string ⟨#[]⟩ :: prcs (List.replicate m pr0)) → (W.setCell ⟨g, j * 2, none⟩ (.string K1)).ownsRow g 51 2 (.slice (some ⟨g, 0, none⟩) N N) N (prcs (ldP r j) ++ .string K1 :: .string ⟨#[]⟩ :: prcs (List.replicate m pr0)) ∧ Kp (only g) W (W.setCell ⟨g, j * 2, none⟩ (.string K1))) := by
        intro W hO
        have h1 := World.ownsRow.stored (g := g) (cap := N) hO (j * 2) (.string K1)
        have e1 := set_k (prcs (ldP r j)) (.string ⟨#[]⟩) (.string ⟨#[]⟩) (.string K1) (prcs (List.replicate m pr0))
        rw [hpl] at e1
        rw [e1] at h1
        exact ⟨h1.1, Kp.ofGrown h1.2 (fun k hk _ => by cases hk; rfl)⟩
      have HCF : Hid (∀ W : World, W.ownsRow g 51 2 (.slice (some ⟨g, 0, none⟩) N N) N (prcs (ldP r j) ++ .string K1 :: .string ⟨#[]⟩ :: prcs (List.replicate m pr0)) → W.cell? ⟨g, j * 2 + 1, none⟩ = some (.string ⟨#[]⟩) ∧ W.frozen? ⟨g, j * 2 + 1, none⟩ = false ∧ (W.setCell ⟨g, j * 2 + 1, none⟩ (.string V1)).ownsRow g 51 2 (.slice (some ⟨g, 0, none⟩) N N) N (prcs (ldP r j) ++ .string K1 :: .string V1 :: prcs (List.replicate m pr0)) ∧ Kp (only g) W (W.setCell ⟨g, j * 2 + 1, none⟩ (.string V1))) := by
        intro W hO
        have hc := row_cell hO (j * 2 + 1) (.string ⟨#[]⟩) (by rw [List.getElem?_append_right (by omega), hpl, show j * 2 + 1 - j * 2 = 1 by omega]; rfl)
        have h1 := World.ownsRow.stored (g := g) (cap := N) hO (j * 2 + 1) (.string V1)
        have e1 := set_v (prcs (ldP r j)) (.string K1) (.string ⟨#[]⟩) (.string V1) (prcs (List.replicate m pr0))
        rw [hpl] at e1
        rw [e1] at h1
        exact ⟨hc.1, hc.2, h1.1, Kp.ofGrown h1.2 (fun k hk _ => by cases hk; rfl)⟩
      have HGE : Hid (prcs (ldP r (j + 1)) ++ prcs (List.replicate (N - (j + 1)) pr0) = prcs (ldP r j) ++ .string K1 :: .string V1 :: prcs (List.replicate m pr0)) := by
        show _ = _
        rw [Hm.out, HSn.out.2, prcs_append, List.append_assoc]
        rfl
      clear hO hm hpl
      go_upto_region 6 with (first
        | (go_at_call 63; refine (HStr.out _ hR).mono ?_; rintro e w3 ⟨rfl, hR3, hk3⟩; obtain ⟨hO3, hc3a, hc3b⟩ := HAF.out w3 hk3)
        | fail)
      obtain ⟨hO4, hk4⟩ := HBF.out w3 hO3
      have hR4 := hR3.keptK hk4 (fun e => by unfold only at e; have := HGb.out; omega)
      generalize w3.setCell ⟨g, j * 2, none⟩ (.string K1) = w4 at *
      clear hc3a hc3b hO3 hR3 HAF HBF
      go_wp2_with (first
        | (go_at_call 63; refine (HStr2.out _ hR4).mono ?_; rintro e w5 ⟨rfl, hR5, hk5⟩; have hO5 := row_keptK hO4 hk5 (fun k hk e => by have hg : g = k := Option.some.inj hk; unfold only at e; have := HGb.out; omega); obtain ⟨hc5a, hc5b, hO6, hk6⟩ := HCF.out w5 hO5)
        | fail)
      have hR6 := hR5.keptK hk6 (fun e => by unfold only at e; have := HGb.out; omega)
      go_roundw
      case rel =>
        refine ⟨j + 1, by omega, by go_num, by rw [HGE.out]; exact hO6, by rw [HSn.out.1]; exact hR6, ?_⟩
        exact (((hK.then (hk3.mono (fun _ _ h => .inl h))).then (hk4.mono (fun _ _ h => .inr h))).then (hk5.mono (fun _ _ h => .inl h))).then (hk6.mono (fun _ _ h => .inr h))
      case measure => simp [intOf]; omega
    · have hlt' : ¬ (j : Int) < (N : Int) := by omega
      have hje : j = N := by omega
      subst hje
      rw [Nat.sub_self] at hO
      have hOP : OwP wr g (.slice (some ⟨g, 0, none⟩) j j) (ldP r j) := by
        unfold OwP
        rw [ldP_len]
        simpa [prcs] using hO
      have nr := na.kept hK (fun e => by have := HGb.out; omega)
      go_wp2_with (first
        | (refine nwpList_store_nb' rfl rfl (.tmp 2) (.tmp 27) rfl w.heap.size rfl rfl nr ?_; clear nr; intro w7 nr hk7)
        | fail)
      refine bodyPost_ret (results_nb1 rfl _ w.heap.size _ rfl nr) rfl ?_
      refine ⟨_, _, _, rfl, (hOP.kept hk7 (fun z hz e => by have hg : g = z := Option.some.inj hz; unfold only at e; have := HGb.out; omega)).mono (by have := HGb.out; omega), hR.keptK hk7 (fun e => by unfold only at e; omega), ?_⟩
      exact (hKa.trans hK (fun _ _ h => h) (fun k hk h => by rcases h with h | h; exact h; exact absurd hk (by have := HGb.out; omega))).trans hk7 (fun _ _ h => h) (fun k hk e => absurd hk (by unfold only at e; omega))

end Go.Proofs.YtponhibiomcidaaDoor
