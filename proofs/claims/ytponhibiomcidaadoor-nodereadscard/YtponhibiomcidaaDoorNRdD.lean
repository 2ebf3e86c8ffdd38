/- Contracts, over the turned program: a node that is read. Conditions: those that each theorem states. -/
import Derived.Test.YtponhibiomcidaaDoorNRdC
import Derived.Test.YtponhibiomcidaaDoorNPc
import Derived.Test.YtponhibiomcidaaDoorTShelf
namespace Go.Proofs.YtponhibiomcidaaDoor
open Go Go.RowKit
set_option linter.unusedVariables false

def rdNd (a c : UInt8) (l : List UInt8) : Nd := if a = 1 then ⟨true, ldP (mkB l, 0) c.toNat, [], []⟩ else if a = 2 then ⟨false, [], ndK (sNum (mkB l, 0) 2) c.toNat, (gNum (mkB l, 0) 2 : Int) :: ndD (sNum (mkB l, 0) 2) c.toNat⟩ else ⟨false, [], [], []⟩
def rdSt (a c : UInt8) (l : List UInt8) : Rst := if a = 1 then ldS (mkB l, 0) c.toNat else if a = 2 then ndS (sNum (mkB l, 0) 2) c.toNat else (mkB (c :: l), 0)
theorem rd_all (a c : UInt8) (l : List UInt8) (h : l.length = 254) : readN (mkB (a :: c :: l)) = if (rdSt a c l).2 = 0 ∧ (rdNd a c l).right = true ∧ (∀ x ∈ (rdSt a c l).1.data.toList, x = 0) then some (rdNd a c l) else none := by
  unfold rdSt rdNd
  by_cases h1 : a = 1
  · subst h1
    simp only [if_true]
    exact read_leaf c l h
  · rw [if_neg h1, if_neg h1]
    by_cases h2 : a = 2
    · subst h2
      simp only [if_true]
      exact read_inner c l h
    · rw [if_neg h2, if_neg h2, read_none _ (.inr ⟨a, c :: l, rfl, h1, h2⟩)]
      have : (⟨false, [], [], []⟩ : Nd).right = false := by decide
      rw [if_neg (by rw [this]; simp)]
theorem ldP_wf (r : Rst) : ∀ j, ∀ p ∈ ldP r j, p.k.size ≤ maxLen ∧ p.v.size ≤ maxLen
  | 0, p, h => by cases h
  | j + 1, p, h => by
    rcases List.mem_append.1 h with h | h
    · exact ldP_wf r j p h
    · rw [List.mem_singleton.1 h]; exact ⟨gStr_len _ _, gStr_len _ _⟩
theorem ndK_wf (r : Rst) : ∀ j, ∀ p ∈ ndK r j, p.size ≤ maxLen
  | 0, p, h => by cases h
  | j + 1, p, h => by
    rcases List.mem_append.1 h with h | h
    · exact ndK_wf r j p h
    · rw [List.mem_singleton.1 h]; exact gStr_len _ _
theorem ndD_wf (r : Rst) : ∀ j, ∀ z ∈ ndD r j, -9223372036854775808 ≤ z ∧ z < 9223372036854775808
  | 0, p, h => by cases h
  | j + 1, p, h => by
    rcases List.mem_append.1 h with h | h
    · exact ndD_wf r j p h
    · rw [List.mem_singleton.1 h]; have := gNum_lt (sStr (ndS r j) 32); omega
theorem rdSt_size (a c : UInt8) (l : List UInt8) : (rdSt a c l).1.size ≤ l.length + 1 := by
  unfold rdSt
  split
  · have := ldS_size (mkB l, 0) c.toNat; rw [mkB_size] at this; omega
  · split
    · have := ndS_size (sNum (mkB l, 0) 2) c.toNat
      have h2 : (sNum (mkB l, 0) 2).1.size ≤ l.length := by have := rawS_size (mkB l) 0 (wid 2 : Nat); rw [mkB_size] at this; exact this
      omega
    · show (mkB (c :: l)).size ≤ _; rw [mkB_size]; simp
/-- A node whose parts a call itself has laid. -/
structure OwN (w : World) (base : Nat) (l : Bool) (pv kv dv : Value) (n : Nd) : Prop where
  l : l = n.leaf
  p : OwP w base pv n.ps
  k : Ow Value.string 9 w base kv n.ks
  d : Ow (Value.int .i64) 3 w base dv n.kd
  wf : n.wf
theorem OwN.kept {w w' : World} {base : Nat} {l : Bool} {pv kv dv : Value} {n : Nd} {S : Nat → Prop} (h : OwN w base l pv kv dv n) (hk : Kp S w w') (hS : ∀ k, base ≤ k → k < w.heap.size → ¬ S k) : OwN w' base l pv kv dv n :=
  ⟨h.l, h.p.kept hk (fun k hk => hS k (h.p.lt k hk).1 (h.p.lt k hk).2), h.k.kept hk (fun k hk => hS k (h.k.lt k hk).1 (h.k.lt k hk).2), h.d.kept hk (fun k hk => hS k (h.d.lt k hk).1 (h.d.lt k hk).2), h.wf⟩
theorem OwN.mono {w : World} {base base' : Nat} {l : Bool} {pv kv dv : Value} {n : Nd} (h : OwN w base l pv kv dv n) (hb : base' ≤ base) : OwN w base' l pv kv dv n := ⟨h.l, h.p.mono hb, h.k.mem hb, h.d.mem hb, h.wf⟩
theorem OwN.nv {w : World} {base : Nat} {l : Bool} {pv kv dv : Value} {n : Nd} (h : OwN w base l pv kv dv n) : Nv w.heap.size w (.agg #[.bool l, pv, kv, dv]) n := ⟨⟨pv, kv, dv, by rw [h.l], h.p.prs, h.k.sl, h.d.sl⟩, h.wf⟩
theorem Ow.toSl {α : Type} {f : α → Value} {e : TypeId} {w : World} {base : Nat} {v : Value} {l : List α} (h : Ow f e w base v l) : Sl f w.heap.size w v l := h.sl

set_option maxRecDepth 100000 in
set_option maxHeartbeats 1000000 in
theorem readAny_any (b : Nat) (a c : UInt8) (l : List UInt8) (w : World) (h : Rd w b (mkB (a :: c :: l)) 0) (hl : l.length ≤ 1000) :
    Calls Tryd.prog 12 #[.pointer (some ⟨b, 0, none⟩)] w fun e w' => ∃ l0 b1 m1 o1 b2 m2 o2 b3 m3 o3, e = .returned (.agg #[.bool l0, .slice b1 m1 o1, .slice b2 m2 o2, .slice b3 m3 o3]) ∧ OwN w' w.heap.size l0 (.slice b1 m1 o1) (.slice b2 m2 o2) (.slice b3 m3 o3) (rdNd a c l) ∧ Rd w' b (rdSt a c l).1 (rdSt a c l).2 ∧ Kp (only b) w w' := by
  have hK0 : Kp none' w (w.alloc (.cells #[.bool false, .slice none 0 0, .slice none 0 0, .slice none 0 0] 27)) := Kp.alloc _ _ _
  have n2 := Nb.new w false (.slice none 0 0) (.slice none 0 0) (.slice none 0 0)
  have hR0 := h.keptK hK0 (fun h => h)
  have hbl := h.lt
  have HNum : Hid (∀ W : World, Rd W b (mkB (a :: c :: l)) 0 → Calls Tryd.prog 29 #[.pointer (some ⟨b, 0, none⟩), .int .i64 1] W fun y w' => y = .returned (.int .u64 (a.toNat : Int)) ∧ Rd w' b (mkB (c :: l)) 0 ∧ Kp (only b) W w') := by
    intro W hW
    refine (rnum1_cons b a (c :: l) W hW (by unfold maxLen; simp; omega)).mono ?_
    rintro y w' ⟨rfl, h1, h2⟩
    exact ⟨rfl, h1, Kp.ofGrown h2 (fun k hk _ => by cases hk; rfl)⟩
  have HLf : Hid (∀ W : World, Rd W b (mkB (c :: l)) 0 → Calls Tryd.prog 30 #[.pointer (some ⟨b, 0, none⟩)] W fun e w' => ∃ a m q, e = .returned (.agg #[.bool true, .slice a m q, .slice none 0 0, .slice none 0 0]) ∧ OwP w' W.heap.size (.slice a m q) (ldP (mkB l, 0) c.toNat) ∧ Rd w' b (ldS (mkB l, 0) c.toNat).1 (ldS (mkB l, 0) c.toNat).2 ∧ Kp (only b) W w') := fun W hW => readLeaf_any b c l W hW hl
  have HIn : Hid (∀ W : World, Rd W b (mkB (c :: l)) 0 → Calls Tryd.prog 31 #[.pointer (some ⟨b, 0, none⟩)] W fun e w' => ∃ a m q a' m' q', e = .returned (.agg #[.bool false, .slice none 0 0, .slice a m q, .slice a' m' q']) ∧ Ow Value.string 9 w' W.heap.size (.slice a m q) (ndK (sNum (mkB l, 0) 2) c.toNat) ∧ Ow (Value.int .i64) 3 w' W.heap.size (.slice a' m' q') ((gNum (mkB l, 0) 2 : Int) :: ndD (sNum (mkB l, 0) 2) c.toNat) ∧ Rd w' b (ndS (sNum (mkB l, 0) 2) c.toNat).1 (ndS (sNum (mkB l, 0) 2) c.toNat).2 ∧ Kp (only b) W w') := fun W hW => readInner_any b c l W hW hl
  have HLT : Hid (w.heap.size < (w.alloc (.cells #[.bool false, .slice none 0 0, .slice none 0 0, .slice none 0 0] 27)).heap.size) := n2.lt
  clear h
  by_cases h1 : a = 1
  · have HNd : Hid (rdNd a c l = ⟨true, ldP (mkB l, 0) c.toNat, [], []⟩) := by show _ = _; unfold rdNd; rw [if_pos h1]
    have HSt : Hid (rdSt a c l = ldS (mkB l, 0) c.toNat) := by show _ = _; unfold rdSt; rw [if_pos h1]
    rw [HNd.out, HSt.out]
    have ha : (a.toNat : Int) = 1 := by rw [h1]; rfl
    rw [ha] at HNum
    clear ha h1
    go_enter Tryd.func12, Tryd.ntmps12
    go_upto_region 1 with fail
    generalize w.alloc (.cells #[.bool false, .slice none 0 0, .slice none 0 0, .slice none 0 0] 27) = w0 at *
    go_upto_region 3 with (first
      | (go_at_call 29; refine (HNum.out _ hR0).mono ?_; rintro e w1 ⟨rfl, hR1, hk1⟩)
      | fail)
    replace n2 := n2.kept hk1 (fun e => by unfold only at e; omega)
    go_wp2_with (first
      | (go_at_call 30; refine (HLf.out _ hR1).mono ?_; rintro e w2 ⟨a4, m4, q4, rfl, hO, hR2, hk2⟩; replace n2 := n2.kept hk2 (fun e => by unfold only at e; omega))
      | (refine nwpList_store_nb' rfl rfl (.tmp 2) (.tmp 8) rfl w.heap.size rfl rfl n2 ?_; clear n2; intro w3 n2 hk3)
      | fail)
    refine bodyPost_ret (results_nb1 rfl _ w.heap.size _ rfl n2) rfl ?_
    have hsz := hk1.size
    refine ⟨_, _, _, _, _, _, _, _, _, _, rfl, ⟨rfl, (hO.kept hk3 (fun z hz e => by have := (hO.lt z hz).1; have := HLT.out; unfold only at e; omega)).mono (by have := HLT.out; omega), Ow.nil _ _ _ _, Ow.nil _ _ _ _, ⟨ldP_wf _ _, by simp, by simp⟩⟩, hR2.keptK hk3 (fun e => by unfold only at e; omega), ?_⟩
    exact ((hK0.nThen hk1).then hk2).trans hk3 (fun _ _ h => h) (fun k hk e => absurd hk (by unfold only at e; omega))
  · by_cases h2 : a = 2
    · have HNd : Hid (rdNd a c l = ⟨false, [], ndK (sNum (mkB l, 0) 2) c.toNat, (gNum (mkB l, 0) 2 : Int) :: ndD (sNum (mkB l, 0) 2) c.toNat⟩) := by show _ = _; unfold rdNd; rw [if_neg h1, if_pos h2]
      have HSt : Hid (rdSt a c l = ndS (sNum (mkB l, 0) 2) c.toNat) := by show _ = _; unfold rdSt; rw [if_neg h1, if_pos h2]
      rw [HNd.out, HSt.out]
      have ha : (a.toNat : Int) = 2 := by rw [h2]; rfl
      rw [ha] at HNum
      clear ha h1 h2
      go_enter Tryd.func12, Tryd.ntmps12
      go_upto_region 1 with fail
      generalize w.alloc (.cells #[.bool false, .slice none 0 0, .slice none 0 0, .slice none 0 0] 27) = w0 at *
      go_upto_region 5 with (first
        | (go_at_call 29; refine (HNum.out _ hR0).mono ?_; rintro e w1 ⟨rfl, hR1, hk1⟩)
        | fail)
      replace n2 := n2.kept hk1 (fun e => by unfold only at e; omega)
      go_wp2_with (first
        | (go_at_call 31; refine (HIn.out _ hR1).mono ?_; rintro e w2 ⟨a4, m4, q4, a5, m5, q5, rfl, hO, hO', hR2, hk2⟩; replace n2 := n2.kept hk2 (fun e => by unfold only at e; omega))
        | (refine nwpList_store_nb' rfl rfl (.tmp 2) (.tmp 12) rfl w.heap.size rfl rfl n2 ?_; clear n2; intro w3 n2 hk3)
        | fail)
      refine bodyPost_ret (results_nb1 rfl _ w.heap.size _ rfl n2) rfl ?_
      have hsz := hk1.size
      have hd0 := gNum_lt (mkB l, 0)
      refine ⟨_, _, _, _, _, _, _, _, _, _, rfl, ⟨rfl, OwP.nil _ _, (hO.kept hk3 (fun z hz e => by have := (hO.lt z hz).1; have := HLT.out; unfold only at e; omega)).mem (by have := HLT.out; omega), (hO'.kept hk3 (fun z hz e => by have := (hO'.lt z hz).1; have := HLT.out; unfold only at e; omega)).mem (by have := HLT.out; omega), ⟨by simp, ndK_wf _ _, fun z hz => ?_⟩⟩, hR2.keptK hk3 (fun e => by unfold only at e; omega), ?_⟩
      · rcases List.mem_cons.1 hz with e | e
        · rw [e]; omega
        · exact ndD_wf _ _ z e
      · exact ((hK0.nThen hk1).then hk2).trans hk3 (fun _ _ h => h) (fun k hk e => absurd hk (by unfold only at e; omega))
    · have HNd : Hid (rdNd a c l = ⟨false, [], [], []⟩) := by show _ = _; unfold rdNd; rw [if_neg h1, if_neg h2]
      have HSt : Hid (rdSt a c l = (mkB (c :: l), 0)) := by show _ = _; unfold rdSt; rw [if_neg h1, if_neg h2]
      rw [HNd.out, HSt.out]
      have hq1 : ((a.toNat : Int) == 1) = false := by
        rw [beq_eq_false_iff_ne]
        intro e
        exact h1 (UInt8.toNat.inj (by show a.toNat = 1; omega))
      have hq2 : ((a.toNat : Int) == 2) = false := by
        rw [beq_eq_false_iff_ne]
        intro e
        exact h2 (UInt8.toNat.inj (by show a.toNat = 2; omega))
      clear h1 h2
      generalize (a.toNat : Int) = z at *
      go_enter Tryd.func12, Tryd.ntmps12
      go_upto_region 1 with fail
      generalize w.alloc (.cells #[.bool false, .slice none 0 0, .slice none 0 0, .slice none 0 0] 27) = w0 at *
      go_upto_region 6 with (first
        | (go_at_call 29; refine (HNum.out _ hR0).mono ?_; rintro e w1 ⟨rfl, hR1, hk1⟩)
        | fail)
      replace n2 := n2.kept hk1 (fun e => by unfold only at e; omega)
      go_wp2_with (first
        | (refine nwpList_store_nb' rfl rfl (.tmp 2) (.tmp 13) rfl w.heap.size rfl rfl n2 ?_; clear n2; intro w3 n2 hk3)
        | fail)
      refine bodyPost_ret (results_nb1 rfl _ w.heap.size _ rfl n2) rfl ?_
      refine ⟨_, _, _, _, _, _, _, _, _, _, rfl, ⟨rfl, OwP.nil _ _, Ow.nil _ _ _ _, Ow.nil _ _ _ _, ⟨by simp, by simp, by simp⟩⟩, hR1.keptK hk3 (fun e => by unfold only at e; omega), ?_⟩
      exact (hK0.nThen hk1).trans hk3 (fun _ _ h => h) (fun k hk e => absurd hk (by unfold only at e; omega))

end Go.Proofs.YtponhibiomcidaaDoor
