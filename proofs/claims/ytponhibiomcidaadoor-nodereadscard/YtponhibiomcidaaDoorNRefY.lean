/- Contracts, over the turned program: the document's Read, of a leaf. Conditions: those that each theorem states. -/
import Derived.Test.YtponhibiomcidaaDoorNRdX
import Derived.Test.YtponhibiomcidaaDoorNRefX
import Derived.Test.YtponhibiomcidaaDoorNRefP
import Derived.Test.YtponhibiomcidaaDoorNOrd
import Derived.Test.YtponhibiomcidaaDoorNPg
namespace Go.Proofs.YtponhibiomcidaaDoor
open Go Go.RowKit
set_option linter.unusedVariables false

/-- The document's reader, in a state. -/
def Rfs (w : World) (b : Nat) (s : ByteArray) (r : Rst) : Prop := ∃ p, p ≤ s.size ∧ rest s p = r.1 ∧ Rf w b s p r.2
theorem Rfs.kept {w w' : World} {b : Nat} {s : ByteArray} {r : Rst} {S : Nat → Prop} (h : Rfs w b s r) (hk : Kp S w w') (hS : ¬ S b) : Rfs w' b s r := by
  obtain ⟨p, h1, h2, h3⟩ := h
  refine ⟨p, h1, h2, ?_⟩
  unfold Rf
  rw [hk.block b h3.lt hS]
  exact h3
theorem Rfs.c2 {w : World} {b : Nat} {s : ByteArray} {r : Rst} (h : Rfs w b s r) : w.cell? ⟨b, 2, none⟩ = some (.int .i64 r.2) := by
  obtain ⟨p, h1, h2, h3⟩ := h
  exact h3.c2
theorem Rfs.lt {w : World} {b : Nat} {s : ByteArray} {r : Rst} (h : Rfs w b s r) : b < w.heap.size := by
  obtain ⟨p, h1, h2, h3⟩ := h
  exact h3.lt
theorem xrnum (b : Nat) (s : ByteArray) (r : Rst) (k : Int) (W : World) (h : Rfs W b s r) (hs : s.size ≤ maxLen) :
    Calls Tryd.prog 18 #[.pointer (some ⟨b, 0, none⟩), .int .i64 k] W fun y w' => y = .returned (.int .u64 (gNum r k : Int)) ∧ Rfs w' b s (sNum r k) ∧ Kp (only b) W w' := by
  obtain ⟨p, h1, h2, h3⟩ := h
  refine (rfrnum_any b s p r.2 k W h3 h1 hs).mono ?_
  rintro y w' ⟨rfl, p', hp', hr', hR', hg⟩
  rw [h2] at hr' hR' ⊢
  exact ⟨rfl, ⟨p', hp', hr', hR'⟩, Kp.ofGrown hg (fun k hk _ => by cases hk; rfl)⟩
theorem xrstr (b : Nat) (s : ByteArray) (r : Rst) (k : Int) (W : World) (h : Rfs W b s r) (hs : s.size ≤ maxLen) :
    Calls Tryd.prog 19 #[.pointer (some ⟨b, 0, none⟩), .int .i64 k] W fun y w' => y = .returned (.string (gStr r k)) ∧ Rfs w' b s (sStr r k) ∧ Kp (only b) W w' := by
  obtain ⟨p, h1, h2, h3⟩ := h
  refine (rfrstr_any b s p r.2 k W h3 h1 hs).mono ?_
  rintro y w' ⟨rfl, p', hp', hr', hR', hg⟩
  rw [h2] at hr' hR' ⊢
  exact ⟨rfl, ⟨p', hp', hr', hR'⟩, Kp.ofGrown hg (fun k hk _ => by cases hk; rfl)⟩
theorem results_nb1u {fn : Func} {p u : Tmp} (h : fn.results = #[.cell p 27, .tmp u]) (tmps : Array Value) (g : Nat) (W : World) (er : Value) {l : Bool} {a1 a2 a3 : Option Addr} {n1 c1 n2 c2 n3 c3 : Nat} (hp : tmps.getD p undef = .pointer (some ⟨g, 0, none⟩)) (hu : tmps.getD u undef = er)
    (hV : Nb W g l (.slice a1 n1 c1) (.slice a2 n2 c2) (.slice a3 n3 c3)) :
    (results fn tmps).run Tryd.prog W = .ok (.tuple #[.agg #[.bool l, .slice a1 n1 c1, .slice a2 n2 c2, .slice a3 n3 c3], er]) W := by
  have hp' : tmps[p]?.getD undef = .pointer (some ⟨g, 0, none⟩) := by simpa using hp
  have hu' : tmps[u]?.getD undef = er := by simpa using hu
  simp only [results, h]
  simp [Result.andThen, hp', hu', asAddr, load_nb hV]
theorem xwpList_store_nb {w : World} {ops : Array Oper} {rest : List Oper} {o : Oper} {a : Act} {Q : Exit → Act → World → Prop} (hgd : o.guard = none) (hd : o.dst = none) (p x : Operand) (ho : o.op = .store 27 p x) (g : Nat) (hp : a.eval p = .pointer (some ⟨g, 0, none⟩)) {l l' : Bool} {pv kv dv : Value} {a1 a2 a3 : Option Addr} {n1 c1 n2 c2 n3 c3 : Nat}
    (hx : a.eval x = .agg #[.bool l', .slice a1 n1 c1, .slice a2 n2 c2, .slice a3 n3 c3]) (hN : Nb w g l pv kv dv)
    (h : ∀ W', Nb W' g l' (.slice a1 n1 c1) (.slice a2 n2 c2) (.slice a3 n3 c3) → Kp (only g) w W' → wpList Tryd.prog ops Q rest a W') : wpList Tryd.prog ops Q (o :: rest) a w := by
  refine wpList_plain hgd fun K hK => ?_
  have := nstep_store_nb (ops := #[]) (K := K) (Q := Q) (E := True) hgd hd p x ho g hp hx hN (fun W' h1 h2 => hK _ _ (h W' h1 h2))
  have hw : Region.wanted o (yielded #[] a.tmps) = true := by simp [Region.wanted, hgd]
  rw [if_pos hw] at this
  exact this
/-- What Read tells: the node, or none, and the error beside it. -/
def XRead (s : ByteArray) (w w' : World) (e : Ending) : Prop := ∃ y, e = .returned (.tuple #[y, .int .i64 (if (readN s).isSome then 0 else 10)]) ∧ Nv w'.heap.size w' y ((readN s).getD ⟨false, [], [], []⟩) ∧ Kp none' w w'
theorem xnone (w : World) : Nv w.heap.size w (.agg #[.bool false, .slice none 0 0, .slice none 0 0, .slice none 0 0]) ⟨false, [], [], []⟩ := ⟨⟨_, _, _, rfl, Prs.nil _ _, Sl.nil _ _ _, Sl.nil _ _ _⟩, ⟨by simp, by simp, by simp⟩⟩
/-- A reader that was made. -/
theorem Rfs.new (w : World) (s : ByteArray) : Rfs (w.alloc (.cells #[.string s, .int .i64 0, .int .i64 0] 47)) w.heap.size s (s, 0) := ⟨0, Nat.zero_le _, rest_self s, Rf.new w s⟩

set_option maxRecDepth 100000 in
set_option maxHeartbeats 2000000 in
theorem rread9_leaf (s : ByteArray) (w : World) (hs : s.size ≤ maxLen) (hk : xK s = 1) : Calls Tryd.prog 6 #[.string s] w fun e w' => XRead s w w' e := by
  have hK0 : Kp none' w ((w.alloc (.cells #[.bool false, .slice none 0 0, .slice none 0 0, .slice none 0 0] 27)).alloc (.cells #[.string s, .int .i64 0, .int .i64 0] 47)) := (Kp.alloc _ _ _).thenN (Kp.alloc _ _ _)
  have n2 := (Nb.new w false (.slice none 0 0) (.slice none 0 0) (.slice none 0 0)).kept (Kp.alloc none' _ (.cells #[.string s, .int .i64 0, .int .i64 0] 47)) (fun h => h)
  have hR := Rfs.new (w.alloc (.cells #[.bool false, .slice none 0 0, .slice none 0 0, .slice none 0 0] 27)) s
  rw [show (w.alloc (.cells #[.bool false, .slice none 0 0, .slice none 0 0, .slice none 0 0] 27)).heap.size = w.heap.size + 1 by simp] at hR
  have Hs : Hid (s.size ≤ maxLen) := hs
  obtain ⟨N, HN⟩ : ∃ N, Hid (xN s = N) := ⟨_, rfl⟩
  have hN256 : N < 256 := by rw [← HN.out]; exact gNum1_lt _
  obtain ⟨r2, Hr2⟩ : ∃ q, Hid (xR2 s = q) := ⟨_, rfl⟩
  have HN1 : Hid (∀ (W : World) (b : Nat), Rfs W b s (s, 0) → Calls Tryd.prog 18 #[.pointer (some ⟨b, 0, none⟩), .int .i64 1] W fun y w' => y = .returned (.int .u64 1) ∧ Rfs w' b s (xR1 s) ∧ Kp (only b) W w') := by
    intro W b hW
    refine (xrnum b s _ 1 W hW Hs.out).mono ?_
    rintro y w' ⟨rfl, h1, h2⟩
    exact ⟨by rw [show gNum (s, 0) 1 = 1 from hk]; rfl, h1, h2⟩
  have HN2 : Hid (∀ (W : World) (b : Nat), Rfs W b s (xR1 s) → Calls Tryd.prog 18 #[.pointer (some ⟨b, 0, none⟩), .int .i64 1] W fun y w' => y = .returned (.int .u64 (N : Int)) ∧ Rfs w' b s r2 ∧ Kp (only b) W w') := by
    intro W b hW
    refine (xrnum b s _ 1 W hW Hs.out).mono ?_
    rintro y w' ⟨rfl, h1, h2⟩
    exact ⟨by rw [← HN.out]; rfl, by rw [← Hr2.out]; exact h1, h2⟩
  have HEX : Hid (∀ j, j ≤ N → (j = N ∨ (xlS r2 j).2 ≠ 0) → readN s = if (xlS r2 j).2 = 0 ∧ (⟨true, xlP r2 j, [], []⟩ : Nd).writeE = 0 ∧ (⟨true, xlP r2 j, [], []⟩ : Nd).write = s then some ⟨true, xlP r2 j, [], []⟩ else none) := by
    rw [← HN.out, ← Hr2.out]
    exact fun j h1 h2 => xread_leaf s j hk h1 h2
  clear hs hk
  go_enter Tryd.func6, Tryd.ntmps6
  go_upto_region 2 with fail
  generalize (w.alloc (.cells #[.bool false, .slice none 0 0, .slice none 0 0, .slice none 0 0] 27)).alloc (.cells #[.string s, .int .i64 0, .int .i64 0] 47) = w0 at *
  go_upto_region 3 with (first
    | (go_at_call 18; refine (HN1.out _ _ hR).mono ?_; clear hR; rintro e w1 ⟨rfl, hR, hk1⟩)
    | fail)
  go_upto_region 4 with (first
    | (go_at_call 18; refine (HN2.out _ _ hR).mono ?_; clear hR; rintro e w2 ⟨rfl, hR, hk2⟩)
    | fail)
  replace hk1 := hk1.then hk2
  replace n2 := n2.kept hk1 (fun e => by unfold only at e; omega)
  have hK2 : Kp none' w w2 := kp_far hK0 (by omega) hk1
  have n7 := Nb.new w2 false (.slice none 0 0) (.slice none 0 0) (.slice none 0 0)
  have hKA : Kp none' w2 (w2.alloc (.cells #[.bool false, .slice none 0 0, .slice none 0 0, .slice none 0 0] 27)) := Kp.alloc _ _ _
  replace n2 := n2.kept hKA (fun h => h)
  replace hK2 := hK2.thenN hKA
  have HLT : Hid (w.heap.size + 1 < w2.heap.size) := hR.lt
  replace hR := hR.kept hKA (fun h => h)
  clear hKA hk1 hk2 hK0 HN1 HN2
  go_upto_region 5 with fail
  generalize w2.alloc (.cells #[.bool false, .slice none 0 0, .slice none 0 0, .slice none 0 0] 27) = w3 at *
  obtain ⟨g7, Hg7⟩ : ∃ q, Hid (w2.heap.size = q) := ⟨_, rfl⟩
  rw [Hg7.out] at n7 HLT ⊢
  have c0 := n7.c0
  have f0 := n7.fz 0
  have hst : Kp (only g7) w3 (w3.setCell ⟨g7, 0, none⟩ (.bool true)) := Kp.setCell _ _ _ _ rfl
  have n7' := n7.set0 true
  replace n2 := n2.kept hst (fun e => by unfold only at e; have := HLT.out; omega)
  replace hK2 := kp_far hK2 (by have := HLT.out; omega) hst
  replace hR := hR.kept hst (fun e => by unfold only at e; have := HLT.out; omega)
  clear hst
  go_upto_region 7 with fail
  generalize w3.setCell ⟨g7, 0, none⟩ (.bool true) = w4 at *
  clear c0 f0 n7
  go_wp2
  go_loopw [8] (fun t wr => ∃ (j : Nat) (a : Option Addr) (m q : Nat), j ≤ N ∧ t = .int .u64 j ∧ Nb wr g7 true (.slice a m q) (.slice none 0 0) (.slice none 0 0) ∧ OwP wr (g7 + 1) (.slice a m q) (xlP r2 j) ∧ Rfs wr (w.heap.size + 1) s (xlS r2 j) ∧ Nb wr w.heap.size false (.slice none 0 0) (.slice none 0 0) (.slice none 0 0) ∧ Kp none' w wr) (fun t _ => N - (intOf t).toNat)
  case atStart => exact ⟨0, _, _, _, Nat.zero_le _, rfl, n7', OwP.nil _ _, hR, n2, hK2⟩
  case round =>
    clear n7' hR n2 hK2
    obtain ⟨j, a, m, q, hj, rfl, n7, hO, hR, n2, hK⟩ := hrel
    have HX := HEX.out j hj
    by_cases hgo : j < N ∧ (xlS r2 j).2 = 0
    · obtain ⟨hlt, he0⟩ := hgo
      clear HX
      have hlt' : (j : Int) < (N : Int) := by omega
      have hc2 := hR.c2
      rw [he0] at hc2
      have HSn : Hid (xlS r2 (j + 1) = sStr (sStr (xlS r2 j) 255) 255 ∧ xlP r2 (j + 1) = xlP r2 j ++ [⟨gStr (xlS r2 j) 255, gStr (sStr (xlS r2 j) 255) 255⟩]) := ⟨rfl, rfl⟩
      have hpl : (xlP r2 j).length = j := xlP_len r2 j
      obtain ⟨ss, Hss⟩ : ∃ q, Hid (xlS r2 j = q) := ⟨_, rfl⟩
      rw [Hss.out] at hR HSn
      obtain ⟨s1, Hs1⟩ : ∃ q, Hid (sStr ss 255 = q) := ⟨_, rfl⟩
      obtain ⟨s2, Hs2⟩ : ∃ q, Hid (sStr s1 255 = q) := ⟨_, rfl⟩
      obtain ⟨k1, Hk1⟩ : ∃ q, Hid (gStr ss 255 = q) := ⟨_, rfl⟩
      obtain ⟨v1, Hv1⟩ : ∃ q, Hid (gStr s1 255 = q) := ⟨_, rfl⟩
      rw [Hs1.out, Hs2.out, Hk1.out, Hv1.out] at HSn
      have HC1 : Hid (∀ (W : World), Rfs W (w.heap.size + 1) s ss → Calls Tryd.prog 19 #[.pointer (some ⟨w.heap.size + 1, 0, none⟩), .int .i64 255] W fun y w' => y = .returned (.string k1) ∧ Rfs w' (w.heap.size + 1) s s1 ∧ Kp (only (w.heap.size + 1)) W w') := by
        intro W hW
        have := xrstr _ s ss 255 W hW Hs.out
        rw [Hk1.out, Hs1.out] at this
        exact this
      have HC2 : Hid (∀ (W : World), Rfs W (w.heap.size + 1) s s1 → Calls Tryd.prog 19 #[.pointer (some ⟨w.heap.size + 1, 0, none⟩), .int .i64 255] W fun y w' => y = .returned (.string v1) ∧ Rfs w' (w.heap.size + 1) s s2 ∧ Kp (only (w.heap.size + 1)) W w') := by
        intro W hW
        have := xrstr _ s s1 255 W hW Hs.out
        rw [Hv1.out, Hs2.out] at this
        exact this
      clear he0
      go_upto_region 11 with (first
        | (go_at_call 19; refine (HC1.out _ hR).mono ?_; clear hR; rintro e w5 ⟨rfl, hR, hk5⟩)
        | fail)
      go_upto_region 12 with (first
        | (go_at_call 19; refine (HC2.out _ hR).mono ?_; clear hR; rintro e w6 ⟨rfl, hR, hk6⟩)
        | fail)
      replace hk5 := hk5.then hk6
      replace n7 := n7.kept hk5 (fun e => by unfold only at e; have := HLT.out; omega)
      replace n2 := n2.kept hk5 (fun e => by unfold only at e; omega)
      replace hO := hO.kept hk5 (fun z hz e => by unfold only at e; have := HLT.out; have := (hO.lt z hz).1; omega)
      replace hK := kp_far hK (by omega) hk5
      clear hk5 hk6 hc2
      have hKA : Kp none' w6 (w6.alloc (.cells #[.string k1, .string v1] 51)) := Kp.alloc _ _ _
      have c1 := n7.c1
      obtain ⟨v3, w7, hq3, hO3, hg3, hv3⟩ := appP (w6.alloc (.cells #[.string k1, .string v1] 51)) (g7 + 1) (.slice a m q) (.slice (some ⟨w6.heap.size, 0, none⟩) 1 1) (xlP r2 j) [⟨k1, v1⟩] (hO.keptN hKA) (src_two' w6 23 51 Tryd.underlying23 _ _ rfl rfl _ rfl) (Nat.le_trans n7.lt hKA.size) (by simp; omega)
      have hk7 : Kp (fun k => g7 + 1 ≤ k) w6 w7 := hKA.nThen (Kp.ofGrown hg3 (fun k hk _ => (hO.lt k hk).1))
      replace n7 := n7.kept hk7 (fun e => by omega)
      replace n2 := n2.kept hk7 (fun e => by have := HLT.out; omega)
      replace hR := hR.kept hk7 (fun e => by have := HLT.out; omega)
      replace hK := hK.trans hk7 (fun _ _ h => h) (fun z hz e => by have := HLT.out; omega)
      clear hk7 hKA hg3 hv3 hO
      obtain ⟨a4, c4, e4, _⟩ := hO3.prs
      obtain ⟨n4, Hn4⟩ : ∃ m, Hid ((xlP r2 j ++ [(⟨k1, v1⟩ : Pr)]).length = m) := ⟨_, rfl⟩
      rw [Hn4.out] at e4
      subst e4
      have d1 := n7.c1
      have f1 := n7.fz 1
      have hst : Kp (only g7) w7 (w7.setCell ⟨g7, 1, none⟩ (.slice a4 n4 c4)) := Kp.setCell _ _ _ _ rfl
      have n7' := n7.set1 (.slice a4 n4 c4)
      replace n2 := n2.kept hst (fun e => by unfold only at e; have := HLT.out; omega)
      replace hR := hR.kept hst (fun e => by unfold only at e; have := HLT.out; omega)
      replace hO3 := hO3.kept hst (fun z hz e => by unfold only at e; have := (hO3.lt z hz).1; omega)
      replace hK := kp_far hK (by have := HLT.out; omega) hst
      clear hst n7
      go_wp2_with (at_builtin; refine nwpList_app_at rfl (.tmp 43) (.tmp 47) 23 23 rfl _ _ rfl rfl hq3 ?_)
      go_roundw
      case rel => exact ⟨j + 1, _, _, _, by omega, by go_num, n7', by rw [HSn.out.2]; exact hO3, by rw [HSn.out.1]; exact hR, n2, hK⟩
      case measure => simp [intOf]; omega
    · have hx : j = N ∨ (xlS r2 j).2 ≠ 0 := by
        rcases Nat.lt_or_ge j N with h | h
        · exact .inr (fun h0 => hgo ⟨h, h0⟩)
        · exact .inl (by omega)
      replace HX := hide (HX hx)
      have hOP := hO.prs
      have HWF : Hid ((⟨true, xlP r2 j, [], []⟩ : Nd).wf) := ⟨fun p hp => by have := xlP_mem r2 j p hp; unfold maxLen; omega, by simp, by simp⟩
      have hpl : (xlP r2 j).length = j := xlP_len r2 j
      have hNV : Nv wr.heap.size wr (.agg #[.bool true, .slice a m q, .slice none 0 0, .slice none 0 0]) ⟨true, xlP r2 j, [], []⟩ := ⟨⟨_, _, _, rfl, hOP, Sl.nil _ _ _, Sl.nil _ _ _⟩, HWF.out⟩
      have hpl' : (⟨true, xlP r2 j, [], []⟩ : Nd).ps.length ≤ 1099511627776 := by show (xlP r2 j).length ≤ _; omega
      have hkl' : (⟨true, xlP r2 j, [], []⟩ : Nd).ks.length ≤ 1099511627776 := by show ([] : List ByteArray).length ≤ _; simp
      obtain ⟨out, Hout⟩ : ∃ z : Nd, Hid ((⟨true, xlP r2 j, [], []⟩ : Nd) = z) := ⟨_, rfl⟩
      rw [Hout.out] at hNV HX hpl' hkl'
      have hc2 := hR.c2
      obtain ⟨E, HE⟩ : ∃ z, Hid ((xlS r2 j).2 = z) := ⟨_, rfl⟩
      rw [HE.out] at hc2 HX hx
      have hcond : ((j : Int) < (N : Int) ∧ (E == 0) = false) ∨ ¬ (j : Int) < (N : Int) := by
        rcases hx with h | h
        · exact .inr (by omega)
        · rcases Nat.lt_or_ge j N with h' | h'
          · exact .inl ⟨by omega, by simp [h]⟩
          · exact .inr (by omega)
      have d0 := n7.c0
      have d1 := n7.c1
      have d2 := n7.c2
      have d3 := n7.c3
      obtain ⟨T, HT⟩ : ∃ z, Hid (out.write = z) := ⟨_, rfl⟩
      obtain ⟨F, HF⟩ : ∃ z, Hid (out.writeE = z) := ⟨_, rfl⟩
      rw [HT.out, HF.out] at HX
      have HWr : Hid (∀ W : World, Nv W.heap.size W (.agg #[.bool true, .slice a m q, .slice none 0 0, .slice none 0 0]) out → Calls Tryd.prog 20 #[.agg #[.bool true, .slice a m q, .slice none 0 0, .slice none 0 0]] W fun e w' => e = .returned (.tuple #[.string T, .int .i64 F]) ∧ Kp none' W w') := by
        intro W h
        have := rwrite9_any _ out W.heap.size W h (Nat.le_refl _) hpl' hkl'
        rw [HT.out, HF.out] at this
        exact this
      clear hpl' hkl' hOP hgo hx HEX hR hpl HE HT HF
      rcases hcond with ⟨t1, t2⟩ | t1
      all_goals
        go_upto_region 23 with (first
          | (go_at_call 20; refine (HWr.out _ hNV).mono ?_; rintro e w8 ⟨rfl, hk8⟩)
          | fail)
        replace hc2 := hk8.cell hc2 (fun h => h)
        replace d0 := hk8.cell d0 (fun h => h)
        replace d1 := hk8.cell d1 (fun h => h)
        replace d2 := hk8.cell d2 (fun h => h)
        replace d3 := hk8.cell d3 (fun h => h)
        replace n2 := n2.kept hk8 (fun h => h)
        replace hNV := hNV.keptN hk8
        replace hK := hK.thenN hk8
        have HNV : Hid (∀ W : World, Kp (only w.heap.size) w8 W → Nv W.heap.size W (.agg #[.bool true, .slice a m q, .slice none 0 0, .slice none 0 0]) out) := by
          intro W hk
          rw [← Hout.out]
          exact ⟨⟨_, _, _, rfl, ((hO.keptN hk8).kept hk (fun z hz e => by have := (hO.lt z hz).1; have := HLT.out; unfold only at e; omega)).prs, Sl.nil _ _ _, Sl.nil _ _ _⟩, HWF.out⟩
        clear hk8 hNV HWr n7 hO
        by_cases hE : E = 0
        · have hE' : (E != 0) = false := by simp [hE]
          by_cases hF : F = 0
          · have hF' : (F != 0) = false := by simp [hF]
            by_cases hT : T = s
            · have hT' : (T.toList == s.toList) = true := by rw [textEq]; simp [hT]
              have HG : Hid (readN s = some out) := by show _ = _; rw [HX.out, if_pos ⟨hE, hF, hT⟩]
              clear hE hF hT HX
              go_wp2_with (first
                | (refine xwpList_store_nb rfl rfl (.tmp 2) (.tmp 108) rfl w.heap.size rfl rfl n2 ?_; clear n2; intro w9 n2 hk9)
                | fail)
              refine bodyPost_ret (results_nb1u rfl _ w.heap.size _ _ rfl rfl n2) rfl ?_
              unfold XRead
              rw [HG.out]
              exact ⟨_, rfl, HNV.out _ hk9, kp_far hK (Nat.le_refl _) hk9⟩
            · have hT' : (T.toList == s.toList) = false := by rw [textEq]; simp [hT]
              have HG : Hid (readN s = none) := by show _ = _; rw [HX.out, if_neg (fun h => hT h.2.2)]
              clear hE hF hT HX
              go_wp2_with (first
                | (refine xwpList_store_nb rfl rfl (.tmp 2) (.tmp 107) rfl w.heap.size rfl rfl n2 ?_; clear n2; intro w9 n2 hk9)
                | fail)
              refine bodyPost_ret (results_nb1u rfl _ w.heap.size _ _ rfl rfl n2) rfl ?_
              unfold XRead
              rw [HG.out]
              exact ⟨_, rfl, xnone _, kp_far hK (Nat.le_refl _) hk9⟩
          · have hF' : (F != 0) = true := by simp [hF]
            have HG : Hid (readN s = none) := by show _ = _; rw [HX.out, if_neg (fun h => hF h.2.1)]
            clear hE hF HX
            go_wp2_with (first
              | (refine xwpList_store_nb rfl rfl (.tmp 2) (.tmp 107) rfl w.heap.size rfl rfl n2 ?_; clear n2; intro w9 n2 hk9)
              | fail)
            refine bodyPost_ret (results_nb1u rfl _ w.heap.size _ _ rfl rfl n2) rfl ?_
            unfold XRead
            rw [HG.out]
            exact ⟨_, rfl, xnone _, kp_far hK (Nat.le_refl _) hk9⟩
        · have hE' : (E != 0) = true := by simp [hE]
          have HG : Hid (readN s = none) := by show _ = _; rw [HX.out, if_neg (fun h => hE h.1)]
          clear hE HX
          go_wp2_with (first
            | (refine xwpList_store_nb rfl rfl (.tmp 2) (.tmp 107) rfl w.heap.size rfl rfl n2 ?_; clear n2; intro w9 n2 hk9)
            | fail)
          refine bodyPost_ret (results_nb1u rfl _ w.heap.size _ _ rfl rfl n2) rfl ?_
          unfold XRead
          rw [HG.out]
          exact ⟨_, rfl, xnone _, kp_far hK (Nat.le_refl _) hk9⟩
end Go.Proofs.YtponhibiomcidaaDoor
