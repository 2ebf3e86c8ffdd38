/- Contract, over the turned program: code.Read answers the instructions that bytes are, or the first error, as the document says. Conditions: those that each theorem states. -/
import Derived.Test.YtohcpgoiclapjaaDoorIRi
import Derived.Deep.CutRange
namespace Go.Proofs.YtohcpgoiclapjaaDoor
open Go.RowKit
set_option linter.unusedVariables false

theorem Tryd.info42 : (Tryd.prog.info? 42).map (fun i => (i.zero, i.size, i.bytes)) = some (some (.agg #[.int .i64 0, .int .i64 0, .int .i64 0, .int .i64 0, .int .i64 0, .int .i64 0, .string ByteArray.empty]), 7, 64) := by kernel_rfl
theorem OwnI.keptK {S : Nat → Prop} {w w' : World} {base : Nat} {v : Value} {l : List In} (h : OwnI w base v l) (hk : Kp S w w') (hS : ∀ k, v.ownBlock = some k → ¬ S k) : OwnI w' base v l := by
  refine ⟨h.1, ?_⟩
  rcases h.2 with ⟨rfl, h0⟩ | ⟨g, cap, cur, rfl, hb, hg, hnc, hcm, hcs, htake⟩
  · exact .inl ⟨rfl, h0⟩
  · exact .inr ⟨g, cap, cur, rfl, hb, by rw [hk.block g (Array.getElem?_eq_some_iff.1 hg).1 (hS g rfl)]; exact hg, hnc, hcm, hcs, htake⟩
theorem Glob.keptK {S : Nat → Prop} {w w' : World} (h : Glob w) (hk : Kp S w w') (hS : ¬ S 0) : Glob w' :=
  ⟨Nat.lt_of_lt_of_le h.1 hk.size, fun i hi => by rw [cell_same (hk.block 0 h.1 hS)]; exact h.2 i hi⟩
/-- What Read answers: the instructions, in memory that the call itself has made, or the error. -/
def ToldP (w' : World) (base : Nat) (y : Except Int (List In)) (v : Value) (er : Int) : Prop :=
  match y with
  | .ok l => er = 0 ∧ OwnI w' base v l
  | .error e => er = e ∧ v = .slice none 0 0
theorem Cr.new (w : World) (b : Nat) : Cr (w.alloc (.cells #[.pointer (some ⟨b, 0, none⟩), .int .i64 0] 50)) w.heap.size b 0 := heap_alloc_new w _
theorem pI_lt {l : List UInt8} {x : In} {q : List UInt8} (h : pI l = .ok (x, q)) (hl : l.length ≤ maxLen) : q.length < l.length := (pI_back l x q h hl).2.2.2

set_option maxRecDepth 100000 in
set_option maxHeartbeats 2000000 in
theorem iread_any (s : ByteArray) (w : World) (hs : s.size ≤ maxLen) (hG : Glob w) :
    Calls Tryd.prog 11 #[.string s] w fun e w' => ∃ v er, e = .returned (.tuple #[v, .int .i64 er]) ∧ ToldP w' w.heap.size (pR 64 s.data.toList) v er ∧ w.grownBy w' none := by
  obtain ⟨i0, hi, hz0, hz1, hz2⟩ := info_parts Tryd.info42
  have Hs : Hid (s.data.toList.length ≤ maxLen) := by show _ ≤ _; rw [Array.length_toList]; exact hs
  clear hs
  have hpos := hG.1
  have hR0 : Rd (w.alloc (.cells #[.string s, .int .i64 0] 71)) w.heap.size (mkB s.data.toList) 0 := by rw [mkB_self]; exact Rd.new _ _ _
  have hga := World.grownBy_alloc w (.cells #[.string s, .int .i64 0] 71) none
  have hgb := World.grownBy_alloc (w.alloc (.cells #[.string s, .int .i64 0] 71)) (.cells #[.pointer (some ⟨w.heap.size, 0, none⟩), .int .i64 0] 50) none
  have hC0 : Cd ((w.alloc (.cells #[.string s, .int .i64 0] 71)).alloc (.cells #[.pointer (some ⟨w.heap.size, 0, none⟩), .int .i64 0] 50)) (w.heap.size + 1) w.heap.size (mkB s.data.toList) 0 0 :=
    ⟨hR0.kept hgb (by simp), by have := Cr.new (w.alloc (.cells #[.string s, .int .i64 0] 71)) w.heap.size; simpa [Cr] using this, by omega⟩
  have hK0 := (Kp.ofN hga none').then (Kp.ofN hgb none')
  clear hga hgb hR0
  go_enter Tryd.func11, Tryd.ntmps11
  go_wp2_with (go_at_call 21; refine (from_any _ _).mono ?_; rintro e w1 ⟨rfl, rfl⟩)
  go_loopw [4] (fun v wr => ∃ (acc : List In) (q : List UInt8), Hid (preI acc (pR (64 - acc.length) q) = pR 64 s.data.toList) ∧ acc.length ≤ 64 ∧ Hid (q.length ≤ s.data.toList.length) ∧ OwnI wr w.heap.size v acc ∧ v.ownBlock ≠ some w.heap.size ∧ v.ownBlock ≠ some (w.heap.size + 1) ∧ Cd wr (w.heap.size + 1) w.heap.size (mkB q) 0 0 ∧ Kp none' w wr) (fun _ wr => (match wr.cell? ⟨w.heap.size, 0, none⟩ with | some (.string s) => s.size | _ => 0))
  case atStart => exact ⟨[], s.data.toList, preI_nil _, by simp, by show _ ≤ _; exact Nat.le_refl _, OwnI.nil _ _, by simp [Value.ownBlock], by simp [Value.ownBlock], hC0, hK0⟩
  case round =>
    clear hC0 hK0
    obtain ⟨acc, q, Hp, hal, Hn, ho, hn0, hn2, hC, hK⟩ := hrel
    have hmz : wr.cell? ⟨w.heap.size, 0, none⟩ = some (.string (mkB q)) := hC.rd.c0
    have hgs := hK.size
    have hRl := hC.rd.lt
    have hCl := hC.cr.lt
    have c0 := hC.cr.c0
    have hR := hC.rd
    have hi2 := ho.ins
    obtain ⟨va, vc, rfl, _, _, _⟩ := hi2
    cases q with
    | nil =>
      go_wp2_with (go_at_call 22; refine (left_none _ _ _ hR).mono ?_; rintro e w1 ⟨rfl, rfl⟩)
      go_ret2
      refine ⟨_, _, rfl, ?_, hK.grown⟩
      rw [← Hp.out, pR_nil]
      exact ⟨rfl, by simpa using ho⟩
    | cons c r =>
      have Hq : Hid ((c :: r).length ≤ maxLen) := by have h1 := Hn.out; have h2 := Hs.out; show _ ≤ _; omega
      by_cases h64 : acc.length = 64
      · have h64' : ((acc.length : Int) == 64) = true := by rw [h64]; rfl
        have He : Hid (pR 64 s.data.toList = .error 3) := by show _ = _; rw [← Hp.out, h64]; rfl
        clear h64
        go_wp2_with (go_at_call 22; refine (left_some _ _ _ _ _ hR).mono ?_; rintro e w1 ⟨n1, rfl, hn1, rfl⟩)
        go_ret2
        refine ⟨_, _, rfl, ?_, hK.grown⟩
        rw [He.out]
        exact ⟨rfl, rfl⟩
      · have h64' : ((acc.length : Int) == 64) = false := by rw [beq_eq_false_iff_ne]; omega
        have hG1 := hG.keptK hK (fun h => h)
        go_wp2_with (go_at_call 22; refine (left_some _ _ _ _ _ hR).mono ?_; rintro e w1 ⟨n1, rfl, hn1, rfl⟩)
        refine (inst_any _ _ c r _ hC Hq.out hG1 hpos).mono ?_
        rintro e w2 ⟨x, rfl, hT, hK2⟩
        have hS0 : ∀ k, two w.heap.size (w.heap.size + 1) k → w.heap.size ≤ k := by unfold two; omega
        have hKK : Kp none' w w2 := hK.trans hK2 (fun _ _ h => h) (fun k hk h => by have := hS0 k h; omega)
        have ho2 := ho.keptK hK2 (fun k hk h => by
          rcases h with h | h
          · rw [h] at hk; exact hn0 hk
          · rw [h] at hk; exact hn2 hk)
        have hga := World.grownBy_alloc w2 (.cells #[.int .i64 x.op, .int .i64 x.a, .int .i64 x.b, .int .i64 x.c, .int .i64 x.v.k, .int .i64 x.v.n, .string x.v.s] 42) none
        have hKa := hKK.then (Kp.ofN hga none')
        have hsz2 := hK2.size
        obtain ⟨k, hk⟩ : ∃ k, 64 - acc.length = k + 1 := ⟨63 - acc.length, by omega⟩
        unfold In.val
        cases hp : pI (c :: r) with
        | error e0 =>
          rw [hp] at hT
          obtain ⟨s1, e1, wr1, hC1, he1⟩ := hT
          have hC2 := hC1.keptN hga
          have hne0 : (erI e1 wr1 != 0) = true := by rw [he1]; rcases pI_err _ _ hp with rfl | ⟨rfl | rfl, _⟩ <;> rfl
          have He : Hid (pR 64 s.data.toList = .error (erI e1 wr1)) := by show _ = _; rw [← Hp.out, hk, pR_err k c r e0 hp, he1]; rfl
          clear hp he1 hk
          go_wp2_with (go_at_call 24; refine (ierr_any _ _ _ _ _ _ hC2).mono ?_; rintro e w3 ⟨rfl, hw⟩; obtain rfl := hw.symm)
          go_ret2
          refine ⟨_, _, rfl, ?_, hKa.grown⟩
          rw [He.out]
          exact ⟨rfl, rfl⟩
        | ok xq =>
          obtain ⟨x0, q⟩ := xq
          rw [hp] at hT
          obtain ⟨rfl, hC1⟩ : x = x0 ∧ Cd w2 (w.heap.size + 1) w.heap.size (mkB q) 0 0 := hT
          have He : Hid (preI (acc ++ [x]) (pR (64 - (acc ++ [x]).length) q) = pR 64 s.data.toList) := by
            show _ = _
            rw [← Hp.out, hk, pR_ok k c r x q hp, preI_preI, List.length_append, show 64 - (acc.length + [x].length) = k by simp; omega]
          have Hl : Hid (q.length < (c :: r).length) := pI_lt hp Hq.out
          have hC2 := hC1.keptN hga
          have hM := Ib.new w2 x
          have ho3 := ho2.alloc (.cells #[.int .i64 x.op, .int .i64 x.a, .int .i64 x.b, .int .i64 x.c, .int .i64 x.v.k, .int .i64 x.v.n, .string x.v.s] 42)
          obtain ⟨d0, d1, d2, d3, d4, d5, d6⟩ := hM.cs
          have hgc := World.grownBy_alloc (w2.alloc (.cells #[.int .i64 x.op, .int .i64 x.a, .int .i64 x.b, .int .i64 x.c, .int .i64 x.v.k, .int .i64 x.v.n, .string x.v.s] 42)) (.cells #[.int .i64 x.op, .int .i64 x.a, .int .i64 x.b, .int .i64 x.c, .int .i64 x.v.k, .int .i64 x.v.n, .string x.v.s] 42) none
          have hlen : acc.length + 1 ≤ 64 := by omega
          clear hp hk hM
          go_wp2_with (first
            | (go_at_call 24; refine (ierr_any _ _ _ _ _ _ hC2).mono ?_; rintro e w3 ⟨rfl, hw⟩; obtain rfl := hw.symm; rw [show erI 0 0 = 0 from rfl])
            | (at_builtin; refine wpList_append_row _ rfl (.tmp 23) (.tmp 25) 22 22 rfl w.heap.size 42 i0 _ 7 64 Tryd.underlying22 hi hz0 rfl hz1 hz2 (.slice va acc.length vc) _ _ rfl (ho3.alloc _) _ 1 (ics [x]) rfl (src_in _ 22 42 Tryd.underlying22 x _ (by simp)) (by omega) (by omega) (by unfold maxLen; omega) (by simp; omega) ?_; intro v4 w4 ho4 hg4 hv4))
          have hC4 : Cd w4 (w.heap.size + 1) w.heap.size (mkB q) 0 0 := (hC2.keptN hgc).kept hg4 (Ne.symm hn0) (Ne.symm hn2)
          have hK4 : Kp none' w w4 := (hKa.then (Kp.ofN hgc none')).step hg4 (fun k hk => .inr (ho.lt k hk).1)
          have hne4 : v4.ownBlock ≠ some w.heap.size ∧ v4.ownBlock ≠ some (w.heap.size + 1) := by
            rcases hv4 with h | h
            · rw [h]; exact ⟨hn0, hn2⟩
            · rw [h]; constructor <;> (intro hh; have := Option.some.inj hh; simp at this; omega)
          have ho5 : OwnI w4 w.heap.size v4 (acc ++ [x]) := by
            unfold OwnI
            rw [ics_append, List.length_append]
            exact ho4
          have hm4 := hC4.rd.c0
          go_roundw
          case rel => exact ⟨acc ++ [x], q, He, by simp; omega, by have h1 := Hn.out; have h2 := Hl.out; show _ ≤ _; omega, ho5, hne4.1, hne4.2, hC4, hK4⟩
          case measure => have h2 := Hl.out; simp only [hm4, hmz, mkB_size]; exact h2

theorem told_ins {w' : World} {base : Nat} {y : Except Int (List In)} {v : Value} {er : Int} (h : ToldP w' base y v er) : Ins w' v (riL y) ∧ er = riE y := by
  cases y with
  | ok l => exact ⟨h.2.ins, h.1⟩
  | error e => obtain ⟨rfl, rfl⟩ := h; exact ⟨Ins.nil _, rfl⟩
theorem wiB_len (l : List In) : (wiB l).length ≤ 17280 := by
  unfold wiB
  split
  · next h =>
    unfold wiOk at h
    rw [Bool.and_eq_true] at h
    have h1 := of_decide_eq_true h.1
    have h2 := encP_len l
    omega
  · simp
theorem wiB_le (l : List In) : (⟨(wiB l).toArray⟩ : ByteArray).size ≤ maxLen := by
  show (wiB l).toArray.size ≤ _
  rw [List.size_toArray]
  have := wiB_len l
  unfold maxLen
  omega

end Go.Proofs.YtohcpgoiclapjaaDoor
