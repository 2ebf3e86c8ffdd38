/- Contract, over the turned program: the document's text of a program. Conditions: those that the theorem states. -/
import Derived.Test.YtihfnnabafnmlaaGreatDoorJRe
import Derived.Test.YtihfnnabafnmlaaGreatDoorIRw
import Derived.Deep.RegionLaw
namespace Go.Proofs.YtihfnnabafnmlaaGreatDoor
open Go.RowKit
set_option linter.unusedVariables false

/-- A block that holds the byte 10. -/
def B10 (w : World) (g : Nat) : Prop := w.heap[g]? = some (.cells #[.int .u8 10] 5 (0, 0))
theorem B10.kept {w w' : World} {g : Nat} (h : B10 w g) (hg : w.grownBy w' none) : B10 w' g := (hg.block g (Array.getElem?_eq_some_iff.1 h).1 (by simp)).trans h
theorem B10.conv {w : World} {g : Nat} (h : B10 w g) : (convert 38 9 (.slice (some ⟨g, 0, none⟩) 1 1)).run Tryz.prog w = .ok (.string ⟨#[10]⟩) w :=
  run_convert_bytes_back (P := Tryz.prog) w 38 9 5 ⟨g, 0, none⟩ 1 [10] Tryz.underlying38 Tryz.underlying5 Tryz.underlying9 (fun j hj => by
    obtain rfl : j = 0 := by simpa using hj
    rw [addr_plainI, cell_of_row w g (0 + 0) _ 5 (0, 0) h]
    rfl)

theorem conv10 (w : World) : (convert 38 9 (.slice (some ⟨w.heap.size, 0, none⟩) 1 1)).run Tryz.prog (w.alloc (.cells #[.int .u8 10] 5)) = .ok (.string ⟨#[10]⟩) (w.alloc (.cells #[.int .u8 10] 5)) :=
  B10.conv (heap_alloc_new w _)
theorem conv10d (w : World) : (convert 38 9 (.slice (some ⟨w.heap.size, 0, none⟩) 1 1)).run Tryz.prog (w.alloc (.cells #[.int .u8 10] 5)).drew = .ok (.string ⟨#[10]⟩) (w.alloc (.cells #[.int .u8 10] 5)).drew :=
  B10.conv (w := (w.alloc (.cells #[.int .u8 10] 5)).drew) (heap_alloc_new w _)

set_option maxRecDepth 100000 in
set_option maxHeartbeats 1000000 in
theorem rwrite14_any (v : Value) (l : List In) (w : World) (hT : Ins w v l) (hwf : ∀ x ∈ l, x.wf) (h10 : Tab10 w) :
    Calls Tryz.prog 7 #[v] w fun e w' => e = .returned (.tuple #[.string ⟨(wtB l).toArray⟩, .int .i64 (wiE l)]) ∧ w.grownBy w' none := by
  have Hcw := hide (rwrite13_any v l w hT hwf)
  obtain ⟨a, c, rfl, hc, hm, hL⟩ := hT
  have hlm : l.length ≤ maxLen := Nat.le_trans hc hm
  unfold maxLen at hlm
  have HWE := hide (wiE_ok l)
  obtain ⟨E, HE⟩ : ∃ E, Hid (wiE l = E) := ⟨_, rfl⟩
  rw [HE.out] at Hcw HWE ⊢
  have HG0 := hide h10
  by_cases hE : E = 0
  · have Hok : Hid (wiOk l = true) := HWE.out.1 hE
    have hll : l.length ≤ 64 ∧ Hid (l.all okI = true) := by
      have := Hok.out
      unfold wiOk at this
      rw [Bool.and_eq_true] at this
      exact ⟨of_decide_eq_true this.1, this.2⟩
    obtain ⟨h64, Hall⟩ := hll
    have HW : Hid ((⟨(wtB l).toArray⟩ : ByteArray) = mkB (textP (l.take l.length))) := by show _ = _; unfold wtB; rw [Hok.out, if_pos rfl, List.take_length]; rfl
    subst hE
    have HL : Hid (∀ i (h : i < l.length), ∃ b off, a = some ⟨b, off, none⟩ ∧ b < w.heap.size ∧ ∀ j u, (In.cells l[i])[j]? = some u → w.cell? ⟨b, off + i * 7 + j, none⟩ = some u) := hL
    have Hm : Hid (c ≤ maxLen) := hm
    clear hL hm HWE h10
    obtain ⟨N, HN⟩ : ∃ N, Hid (l.length = N) := ⟨_, rfl⟩
    rw [HN.out] at h64 hlm HW
    go_enter Tryz.func7, Tryz.ntmps7
    rw [HN.out]
    go_wp2_with (go_at_call 16; rw [HN.out] at Hcw; refine (Hcw.out).mono ?_; rintro e w1 ⟨rfl, hg1⟩)
    go_loopw [6, 7] (fun b i wr => ∃ (j : Nat) (A : ByteArray), j ≤ N ∧ i = .int .i64 j ∧ b = .string A ∧ Hid (A = mkB (textP (l.take j))) ∧ w.grownBy wr none) (fun _ i _ => N - (intOf i).toNat)
    case atStart => exact ⟨0, ⟨#[]⟩, Nat.zero_le _, rfl, rfl, rfl, hg1⟩
    case round =>
      obtain ⟨j, A, hj, rfl, rfl, HA, hg⟩ := hrel
      by_cases hlt : j < N
      · have hltl : j < l.length := by rw [HN.out]; exact hlt
        obtain ⟨b, off, rfl, hb, hcs⟩ := HL.out j hltl
        have hs := hg.block b hb (by simp)
        have hcs' : ∀ q u, (In.cells l[j])[q]? = some u → wr.cell? ⟨b, off + j * 7 + q, none⟩ = some u := fun q u hu => by rw [cell_same hs]; exact hcs q u hu
        have hwx := hwf l[j] (List.getElem_mem hltl)
        have Hkx : Hid (okI l[j] = true) := List.all_eq_true.1 Hall.out _ (List.getElem_mem hltl)
        have Htk : Hid (textP (l.take (j + 1)) = textP (l.take j) ++ lineI l[j] ++ [10]) := textP_take l j hltl
        have hAs : A.size ≤ 20000 := by
          have h1 := textP_len (l.take j) (fun x hx => hwf x (List.mem_of_mem_take hx)) (by
            rw [List.all_eq_true]
            exact fun x hx => List.all_eq_true.1 Hall.out x (List.mem_of_mem_take hx))
          rw [List.length_take] at h1
          rw [HA.out, mkB_size]
          omega
        have hxs := line_len _ hwx Hkx.out
        have HCS := hide hcs'
        generalize l[j] = x at *
        obtain ⟨c0, c1, c2, c3, c4, c5, c6⟩ := cells7 hcs'
        obtain ⟨X, HX⟩ : ∃ X, Hid (mkB (lineI x) = X) := ⟨_, rfl⟩
        have Hln : Hid (∀ W, wr.grownBy W none → Calls Tryz.prog 17 #[.agg #[.int .i64 x.op, .int .i64 x.a, .int .i64 x.b, .int .i64 x.c, .int .i64 x.v.k, .int .i64 x.v.n, .string x.v.s]] W fun e w' => e = .returned (.string X) ∧ W.grownBy w' none) := by
          intro W hW
          rw [← HX.out]
          exact rline_any x W hwx Hkx.out ((HG0.out.keptN hg).keptN hW)
        have hXs : X.size ≤ 200 := by rw [← HX.out, mkB_size]; exact hxs
        have t1 : ¬ 9223372036854775807 < X.size + 1 := by omega
        have t2 : ¬ 9223372036854775807 < A.size + (X.size + 1) := by omega
        have HA2 : Hid (A ++ (X ++ ⟨#[10]⟩) = mkB (textP (l.take (j + 1)))) := by
          show _ = _
          rw [Htk.out, HA.out, ← HX.out]
          show mkB _ ++ (mkB _ ++ mkB [10]) = _
          rw [mkB_append, mkB_append, List.append_assoc]
        clear hcs hcs' hs hAs hXs hxs
        go_upto_region 8 with fail
        obtain ⟨e0, e1, e2, e3, e4, e5, e6⟩ := cells7 (w := wr.alloc (.cells #[.int .u8 10] 5)) (b := b) (o := off + j * 7) (x := x) (fun q u hu => by
          rw [cell_same ((World.grownBy_alloc wr (.cells #[.int .u8 10] 5) none).block b (Nat.lt_of_lt_of_le hb hg.size) (by simp))]
          exact HCS.out q u hu)
        have hcA := conv10 wr
        have hcB := conv10d wr
        go_region_law ((go_simp; go_at_call 17; refine (Hln.out _ (by first | exact World.grownBy.refl _ _ | exact grown_drew _ | exact World.grownBy_alloc _ _ _ | exact grown_up (World.grownBy_alloc _ _ _) (grown_drew _))).mono ?_; rintro e w3 ⟨rfl, hg3⟩; have hc3 := conv10 w3; try have hcC := B10.conv ((fun (h : B10 _ wr.heap.size) => B10.kept h hg3) (heap_alloc_new wr (.cells #[.int .u8 10] 5)))))
        all_goals go_wp2
        all_goals go_roundw
        all_goals first
          | (simp [intOf]; omega)
          | exact ⟨j + 1, _, by omega, by go_num, rfl, HA2, grown_up (grown_up (grown_up hg (grown_drew _)) hg3) (World.grownBy_alloc _ _ _)⟩
          | exact ⟨j + 1, _, by omega, by go_num, rfl, HA2, grown_up (grown_up (grown_up hg (World.grownBy_alloc _ _ _)) (grown_drew _)) hg3⟩
      · have HA2 : Hid (A = (⟨(wtB l).toArray⟩ : ByteArray)) := by
          show _ = _
          rw [HW.out, HA.out, show j = N by omega]
        go_wp2
        go_ret2
        rw [HA2.out]
        exact ⟨rfl, hg⟩
  · have HW : Hid (wtB l = []) := by
      show _ = _
      unfold wtB
      rw [if_neg]
      intro h
      exact hE (HWE.out.2 h)
    have hE' : (E != 0) = true := by simpa using hE
    clear hL hm HWE hE
    go_enter Tryz.func7, Tryz.ntmps7
    go_wp2_with (go_at_call 16; refine (Hcw.out).mono ?_; rintro e w1 ⟨rfl, hg1⟩)
    go_ret2
    rw [HW.out]
    exact ⟨rfl, hg1⟩

end Go.Proofs.YtihfnnabafnmlaaGreatDoor
