/- Contract, over the turned program: the reference's Read answers the instructions that bytes are, or the first error. Conditions: those that each theorem states. -/
import Derived.Test.YtohcpgoiclapjaaDoorIRs
import Derived.Test.YtohcpgoiclapjaaDoorIRp
namespace Go.Proofs.YtohcpgoiclapjaaDoor
open Go.RowKit
set_option linter.unusedVariables false

theorem rread1_any (b : Nat) (s : ByteArray) (c : UInt8) (r : List UInt8) (w : World) (h : Rt w b s (c :: r) 0) :
    Calls Tryd.prog 26 #[.pointer (some ⟨b, 0, none⟩)] w fun e w' => ∃ (x : In) (er : Int), e = .returned (.tuple #[x.val, .int .i64 er]) ∧ RToldI w' b s (pI (c :: r)) x er ∧ w.grownBy w' (some b) := by
  cases ho : opOk (c.toNat : Int) with
  | true => exact rread1_good b s c r w h ho
  | false =>
    have e : pI (c :: r) = .error 4 := by rw [pI_cons, ho]; rfl
    rw [e]
    exact rread1_bad b s c r w h ho
theorem rt_left (b : Nat) (s : ByteArray) (l : List UInt8) (e : Int) (w : World) (h : Rt w b s l e) :
    Calls Tryd.prog 25 #[.pointer (some ⟨b, 0, none⟩)] w fun x w' => x = .returned (.int .i64 (l.length : Int)) ∧ Rt w' b s l e ∧ w.grownBy w' none := by
  have h' := h
  obtain ⟨hs, p, hp, hr, hf⟩ := h
  refine (rfleft_any b s p e w hf hp hs).mono ?_
  rintro x w' ⟨rfl, hg⟩
  have e1 : s.size - p = l.length := by rw [← rest_size, hr, mkB_size]
  exact ⟨by rw [e1], h'.kept hg (by simp), hg⟩

set_option maxRecDepth 100000 in
set_option maxHeartbeats 2000000 in
theorem rread13_any (s : ByteArray) (w : World) (hs : s.size ≤ maxLen) :
    Calls Tryd.prog 12 #[.string s] w fun e w' => ∃ v er, e = .returned (.tuple #[v, .int .i64 er]) ∧ ToldP w' w.heap.size (pR 64 s.data.toList) v er ∧ w.grownBy w' none := by
  obtain ⟨i0, hi, hz0, hz1, hz2⟩ := info_parts Tryd.info42
  have hR0 := Rt.new w s hs
  have Hs : Hid (s.data.toList.length ≤ maxLen) := by show _ ≤ _; rw [Array.length_toList]; exact hs
  clear hs
  have hga := World.grownBy_alloc w (.cells #[.string s, .int .i64 0, .int .i64 0] 56) none
  go_enter Tryd.func12, Tryd.ntmps12
  go_wp2_with fail
  go_loopw [5] (fun v wr => ∃ (acc : List In) (q : List UInt8), Hid (preI acc (pR (64 - acc.length) q) = pR 64 s.data.toList) ∧ acc.length ≤ 64 ∧ OwnI wr w.heap.size v acc ∧ v.ownBlock ≠ some w.heap.size ∧ Rt wr w.heap.size s q 0 ∧ w.grownBy wr none) (fun _ wr => (match wr.cell? ⟨w.heap.size, 1, none⟩ with | some (.int .i64 p) => s.size - p.toNat | _ => 0))
  case atStart => exact ⟨[], s.data.toList, preI_nil _, by simp, OwnI.nil _ _, by simp [Value.ownBlock], hR0, hga⟩
  case round =>
    clear hR0 hga
    obtain ⟨acc, q, Hp, hal, ho, hn0, hR, hg⟩ := hrel
    have hql := hR.len
    have hRl := hR.lt
    have hgs := hg.size
    obtain ⟨va, vc, rfl, _, _, _⟩ := ho.ins
    cases q with
    | nil =>
      go_wp2_with (go_at_call 25; refine (rt_left _ _ _ _ _ hR).mono ?_; rintro e w1 ⟨rfl, hR1, hg1⟩)
      go_ret2
      refine ⟨_, _, rfl, ?_, grown_up hg hg1⟩
      rw [← Hp.out, pR_nil]
      exact ⟨rfl, by simpa using ho.kept hg1 (by cases (Value.slice va acc.length vc).ownBlock <;> simp)⟩
    | cons c r =>
      have hpos : (0 : Int) < ((c :: r).length : Int) := by simp
      by_cases h64 : acc.length = 64
      · have h64' : (64 : Int) ≤ (acc.length : Int) := by omega
        have He : Hid (pR 64 s.data.toList = .error 3) := by show _ = _; rw [← Hp.out, h64]; rfl
        clear h64
        go_wp2_with (go_at_call 25; refine (rt_left _ _ _ _ _ hR).mono ?_; rintro e w1 ⟨rfl, hR1, hg1⟩; generalize (c :: r).length = cl at *)
        go_ret2
        refine ⟨_, _, rfl, ?_, grown_up hg hg1⟩
        rw [He.out]
        exact ⟨rfl, rfl⟩
      · have h64' : ¬ (64 : Int) ≤ (acc.length : Int) := by omega
        obtain ⟨k, hk⟩ : ∃ k, 64 - acc.length = k + 1 := ⟨63 - acc.length, by omega⟩
        have Hk := hide hk
        have hlen : acc.length + 1 ≤ 64 := by omega
        obtain ⟨hsm, pz, hpz1, hpz2, hpz3⟩ := hR
        have hmz := hpz3.c1
        have HZ : Hid ((c :: r).length = s.size - pz) := by
          have := congrArg ByteArray.size hpz2
          rw [rest_size, mkB_size] at this
          exact this.symm
        have hR' : Rt wr w.heap.size s (c :: r) 0 := ⟨hsm, pz, hpz1, hpz2, hpz3⟩
        have Hmax : Hid ((c :: r).length ≤ maxLen) := by show _ ≤ _; omega
        clear h64 hk hpz2 hpz3
        go_wp2_with (go_at_call 25; refine (rt_left _ _ _ _ _ hR').mono ?_; rintro e w1 ⟨rfl, hR1, hg1⟩; obtain ⟨cl, Hcl⟩ : ∃ cl, Hid ((c :: r).length = cl) := ⟨_, rfl⟩; rw [Hcl.out] at hpos ⊢)
        refine (rread1_any _ s c r _ hR1).mono ?_
        rintro e w2 ⟨x, er, rfl, hT, hg2⟩
        have hG2 : w.grownBy w2 none := grown_new (grown_up hg hg1) hg2 (fun k hk => by cases hk; exact Nat.le_refl _)
        have ho2 := (ho.kept hg1 (by cases (Value.slice va acc.length vc).ownBlock <;> simp)).kept hg2 (.inr hn0)
        have hga := World.grownBy_alloc w2 (.cells #[.int .i64 x.op, .int .i64 x.a, .int .i64 x.b, .int .i64 x.c, .int .i64 x.v.k, .int .i64 x.v.n, .string x.v.s] 42) none
        have hG3 := grown_up hG2 hga
        have hsz2 := hG2.size
        have hszr := hg2.size
        have hsz1 := hg1.size
        unfold In.val
        cases hp : pI (c :: r) with
        | error e0 =>
          rw [hp] at hT
          obtain rfl : er = e0 := hT
          have hne0 : (er != 0) = true := by rcases pI_err _ _ hp with rfl | ⟨rfl | rfl, _⟩ <;> rfl
          have He : Hid (pR 64 s.data.toList = .error er) := by show _ = _; rw [← Hp.out, Hk.out, pR_err k c r er hp]; rfl
          clear hp
          go_wp2
          go_ret2
          refine ⟨_, _, rfl, ?_, hG3⟩
          rw [He.out]
          exact ⟨rfl, rfl⟩
        | ok xq =>
          obtain ⟨x0, q⟩ := xq
          rw [hp] at hT
          obtain ⟨rfl, rfl, hR2⟩ : x = x0 ∧ er = 0 ∧ Rt w2 w.heap.size s q 0 := hT
          have He : Hid (preI (acc ++ [x]) (pR (64 - (acc ++ [x]).length) q) = pR 64 s.data.toList) := by
            have hk := Hk.out
            show _ = _
            rw [← Hp.out, hk, pR_ok k c r x q hp, preI_preI, List.length_append, show 64 - (acc.length + [x].length) = k by simp; omega]
          have Hl : Hid (q.length < (c :: r).length) := pI_lt hp Hmax.out
          have hM := Ib.new w2 x
          have hR3 := hR2.kept hga (by simp)
          have ho3 := ho2.alloc (.cells #[.int .i64 x.op, .int .i64 x.a, .int .i64 x.b, .int .i64 x.c, .int .i64 x.v.k, .int .i64 x.v.n, .string x.v.s] 42)
          obtain ⟨d0, d1, d2, d3, d4, d5, d6⟩ := hM.cs
          have hgc := World.grownBy_alloc (w2.alloc (.cells #[.int .i64 x.op, .int .i64 x.a, .int .i64 x.b, .int .i64 x.c, .int .i64 x.v.k, .int .i64 x.v.n, .string x.v.s] 42)) (.cells #[.int .i64 x.op, .int .i64 x.a, .int .i64 x.b, .int .i64 x.c, .int .i64 x.v.k, .int .i64 x.v.n, .string x.v.s] 42) none
          clear hp hM
          go_wp2_with (at_builtin; refine wpList_append_row _ rfl (.tmp 25) (.tmp 27) 22 22 rfl w.heap.size 42 i0 _ 7 64 Tryd.underlying22 hi hz0 rfl hz1 hz2 (.slice va acc.length vc) _ _ rfl (ho3.alloc _) _ 1 (ics [x]) rfl (src_in _ 22 42 Tryd.underlying22 x _ (by simp)) (by omega) (by omega) (by unfold maxLen; omega) (by simp; omega) ?_; intro v4 w4 ho4 hg4 hv4)
          have hR4 : Rt w4 w.heap.size s q 0 := (hR3.kept hgc (by simp)).kept hg4 (Ne.symm hn0)
          have hG4 : w.grownBy w4 none := grown_new (grown_up hG3 hgc) hg4 (fun k hk => (ho.lt k hk).1)
          have hne4 : v4.ownBlock ≠ some w.heap.size := by
            rcases hv4 with h | h
            · rw [h]; exact hn0
            · rw [h]; intro hh; have := Option.some.inj hh; simp at this; omega
          have ho5 : OwnI w4 w.heap.size v4 (acc ++ [x]) := by
            unfold OwnI
            rw [ics_append, List.length_append]
            exact ho4
          obtain ⟨_, py, hpy1, hpy2, hpy3⟩ := hR4
          have hm4 := hpy3.c1
          have HY : Hid (q.length = s.size - py) := by
            have := congrArg ByteArray.size hpy2
            rw [rest_size, mkB_size] at this
            exact this.symm
          go_roundw
          case rel => exact ⟨acc ++ [x], q, He, by simp; omega, ho5, hne4, ⟨hsm, py, hpy1, hpy2, hpy3⟩, hG4⟩
          case measure =>
            have h2 := Hl.out
            have h3 := HY.out
            have h4 := HZ.out
            simp only [hm4, hmz, Int.toNat_natCast]
            omega

end Go.Proofs.YtohcpgoiclapjaaDoor
