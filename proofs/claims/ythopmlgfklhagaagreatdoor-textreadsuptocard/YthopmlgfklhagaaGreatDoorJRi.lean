/- Contract, over the turned program: the document's instruction of words. Conditions: those that the theorem states. -/
import Derived.Test.YthopmlgfklhagaaGreatDoorJRh
import Derived.Test.YthopmlgfklhagaaGreatDoorIRw
import Derived.Test.YthopmlgfklhagaaGreatDoorJTl
import Derived.Deep.RegionHeldLaw
import Derived.Deep.RegionHeld3
import Derived.Deep.RegionLaw
namespace Go.Proofs.YthopmlgfklhagaaGreatDoor
open Go Go.RowKit
set_option linter.unusedVariables false

/-- What inst tells of words. -/
def InP (o : Option In) (e : Ending) : Prop := ∃ (x : In) (b : Bool), e = .returned (.tuple #[x.val, .bool b]) ∧ b = o.isSome ∧ ∀ y, o = some y → x = y
theorem inP_none (x : In) {o : Option In} (h : o = none) : InP o (.returned (.tuple #[x.val, .bool false])) := ⟨x, false, rfl, by rw [h]; rfl, fun v hv => by rw [h] at hv; cases hv⟩
/-- The Op of a name, as far as k names have been looked at. -/
def opK (w0 : List UInt8) (k : Nat) : Int := if opU w0 < (k : Int) then opU w0 else 0
theorem opU_range (w0 : List UInt8) : 0 ≤ opU w0 ∧ opU w0 ≤ 19 := by
  unfold opU
  split <;> omega
theorem opK_one (w0 : List UInt8) : opK w0 1 = 0 := by
  have := opU_range w0
  unfold opK
  split <;> omega
theorem opK_end (w0 : List UInt8) : opK w0 20 = opU w0 := by
  have := opU_range w0
  unfold opK
  rw [if_pos (by omega)]
theorem opK_hit (w0 : List UInt8) (k : Nat) (h1 : 1 ≤ k) (h2 : k ≤ 19) (he : nameB (k : Int) = w0) : opK w0 (k + 1) = (k : Int) := by
  have h : opU w0 = (k : Int) := by rw [← he]; exact opU_name _ (decide_eq_true (by omega))
  unfold opK
  rw [h, if_pos (by omega)]
theorem opK_miss (w0 : List UInt8) (k : Nat) (h1 : 1 ≤ k) (h2 : k ≤ 19) (he : nameB (k : Int) ≠ w0) : opK w0 (k + 1) = opK w0 k := by
  have h : opU w0 ≠ (k : Int) := by
    intro e
    apply he
    have := name_opU w0 (by rw [e]; exact decide_eq_true (by omega))
    rw [e] at this
    exact this
  unfold opK
  by_cases hc : opU w0 < (k : Int)
  · rw [if_pos (by omega), if_pos hc]
  · rw [if_neg (by omega), if_neg hc]

/-- Three numbers in a block of their own. -/
def Ac (w : World) (b : Nat) (x y z : Int) : Prop := w.heap[b]? = some (.cells #[.int .i64 x, .int .i64 y, .int .i64 z] 3 (0, 0))
theorem Ac.cs {w : World} {b : Nat} {x y z : Int} (h : Ac w b x y z) : w.cell? ⟨b, 0, none⟩ = some (.int .i64 x) ∧ w.cell? ⟨b, 1, none⟩ = some (.int .i64 y) ∧ w.cell? ⟨b, 2, none⟩ = some (.int .i64 z) :=
  ⟨by rw [cell_of_row w b 0 _ 3 (0, 0) h]; rfl, by rw [cell_of_row w b 1 _ 3 (0, 0) h]; rfl, by rw [cell_of_row w b 2 _ 3 (0, 0) h]; rfl⟩
theorem Ac.lt {w : World} {b : Nat} {x y z : Int} (h : Ac w b x y z) : b < w.heap.size := (Array.getElem?_eq_some_iff.1 h).1
theorem Ac.fz {w : World} {b : Nat} {x y z : Int} (h : Ac w b x y z) (j : Nat) : w.frozen? ⟨b, j, none⟩ = false := by
  unfold World.frozen?
  rw [show w.heap[b]? = _ from h]
  simp
theorem Ac.kept {w w' : World} {b : Nat} {x y z : Int} {row : Option Nat} (h : Ac w b x y z) (hg : w.grownBy w' row) (hne : some b ≠ row) : Ac w' b x y z := by
  unfold Ac
  rw [hg.block b h.lt hne]
  exact h
theorem Ac.put {w : World} {q : Nat} {x y z : Int} (h : Ac w q x y z) (k : Nat) (hk : k < 3) (v : Int) :
    Ac (w.setCell ⟨q, k, none⟩ (.int .i64 v)) q (if k = 0 then v else x) (if k = 1 then v else y) (if k = 2 then v else z) ∧ w.grownBy (w.setCell ⟨q, k, none⟩ (.int .i64 v)) (some q) ∧ ∃ u, w.cell? ⟨q, k, none⟩ = some u := by
  refine ⟨?_, grown_set _ _ _ _, ?_⟩
  · unfold Ac at h ⊢
    rcases (by omega : k = 0 ∨ k = 1 ∨ k = 2) with rfl | rfl | rfl <;> rw [heap_setCell_same w q _ _ 3 _ h] <;> rfl
  · obtain ⟨c0, c1, c2⟩ := h.cs
    rcases (by omega : k = 0 ∨ k = 1 ∨ k = 2) with rfl | rfl | rfl
    · exact ⟨_, c0⟩
    · exact ⟨_, c1⟩
    · exact ⟨_, c2⟩
/-- The operands so far: whether they are ones, and which. -/
def OkS (ws : List (List UInt8)) (k : Nat) (o : Bool) (a b c : Int) : Prop := o = (isW ws k 0 && isW ws k 1 && isW ws k 2) ∧ (o = true → a = atW ws k 0 ∧ b = atW ws k 1 ∧ c = atW ws k 2)
theorem OkS.zero (ws : List (List UInt8)) : OkS ws 0 true 0 0 0 := ⟨by simp [isW], fun _ => by simp [atW]⟩
theorem isW_lt (ws : List (List UInt8)) (k j : Nat) (h : j < k) : isW ws (k + 1) j = isW ws k j := by unfold isW; rw [if_pos (by omega), if_pos h]
theorem isW_gt (ws : List (List UInt8)) (k j : Nat) (h : k < j) : isW ws (k + 1) j = true ∧ isW ws k j = true := by unfold isW; rw [if_neg (by omega), if_neg (by omega)]; exact ⟨rfl, rfl⟩
theorem atW_lt (ws : List (List UInt8)) (k j : Nat) (h : j < k) : atW ws (k + 1) j = atW ws k j := by unfold atW; rw [if_pos (by omega), if_pos h]
theorem atW_gt (ws : List (List UInt8)) (k j : Nat) (h : k < j) : atW ws (k + 1) j = 0 ∧ atW ws k j = 0 := by unfold atW; rw [if_neg (by omega), if_neg (by omega)]; exact ⟨rfl, rfl⟩
theorem isW_eq (ws : List (List UInt8)) (k : Nat) : isW ws k k = true := by unfold isW; rw [if_neg (by omega)]
theorem new_w (ws : List (List UInt8)) (k : Nat) (z : Int) (b : Bool) (h : NumR (numW (ws.getD (k + 1) [])) z b) : isW ws (k + 1) k = (b && decide (0 ≤ z ∧ z ≤ 255)) ∧ (b = true → atW ws (k + 1) k = z) := by
  unfold isW atW
  rw [if_pos (by omega), if_pos (by omega), h.1]
  cases hn : numW (ws.getD (k + 1) []) with
  | none => exact ⟨rfl, fun h => by cases h⟩
  | some z' =>
    have := h.2 z' hn
    subst this
    exact ⟨rfl, fun _ => rfl⟩
theorem OkS.step {ws : List (List UInt8)} {k : Nat} {o : Bool} {a b c z : Int} {bb : Bool} (h : OkS ws k o a b c) (hk : k < 3) (hn : NumR (numW (ws.getD (k + 1) [])) z bb) (o' : Bool) (ho : o' = (o && (bb && decide (0 ≤ z ∧ z ≤ 255)))) :
    OkS ws (k + 1) o' (if k = 0 then z else a) (if k = 1 then z else b) (if k = 2 then z else c) := by
  obtain ⟨h1, h2⟩ := h
  obtain ⟨n1, n2⟩ := new_w ws k z bb hn
  have hall : (isW ws (k + 1) 0 && isW ws (k + 1) 1 && isW ws (k + 1) 2) = ((isW ws k 0 && isW ws k 1 && isW ws k 2) && isW ws (k + 1) k) := by
    rcases (by omega : k = 0 ∨ k = 1 ∨ k = 2) with rfl | rfl | rfl
    · rw [(isW_gt ws 0 1 (by omega)).1, (isW_gt ws 0 2 (by omega)).1, (isW_gt ws 0 1 (by omega)).2, (isW_gt ws 0 2 (by omega)).2, isW_eq ws 0]; simp
    · rw [isW_lt ws 1 0 (by omega), (isW_gt ws 1 2 (by omega)).1, (isW_gt ws 1 2 (by omega)).2, isW_eq ws 1]; simp
    · rw [isW_lt ws 2 0 (by omega), isW_lt ws 2 1 (by omega), isW_eq ws 2]; simp
  refine ⟨by rw [hall, n1, ← h1, ho], fun ht => ?_⟩
  rw [ho] at ht
  simp only [Bool.and_eq_true] at ht
  obtain ⟨g1, g2, g3⟩ := h2 ht.1
  have g4 := n2 ht.2.1
  rcases (by omega : k = 0 ∨ k = 1 ∨ k = 2) with rfl | rfl | rfl
  · exact ⟨g4.symm, by rw [(atW_gt ws 0 1 (by omega)).1]; exact g2.trans (atW_gt ws 0 1 (by omega)).2, by rw [(atW_gt ws 0 2 (by omega)).1]; exact g3.trans (atW_gt ws 0 2 (by omega)).2⟩
  · exact ⟨by rw [atW_lt ws 1 0 (by omega)]; exact g1, g4.symm, by rw [(atW_gt ws 1 2 (by omega)).1]; exact g3.trans (atW_gt ws 1 2 (by omega)).2⟩
  · exact ⟨by rw [atW_lt ws 2 0 (by omega)]; exact g1, by rw [atW_lt ws 2 1 (by omega)]; exact g2, g4.symm⟩

theorem at_ir (ws : List (List UInt8)) (n k : Nat) (h : isW ws n k = true) : ir (atW ws n k) := by
  unfold isW at h
  unfold atW
  split
  · next hk =>
    rw [if_pos hk] at h
    cases hn : numW (ws.getD (k + 1) []) with
    | none => exact ir_zero
    | some z =>
      rw [hn] at h
      have h : byteOk z = true := h
      have := of_decide_eq_true h
      show ir z
      unfold ir
      omega
  · exact ir_zero
theorem val_wf (ws : List (List UInt8)) (op : Int) (hs : ∀ x ∈ ws, x.length ≤ 1099511627776) (h : valIs op ws = true) : (valAt op ws).wf := by
  unfold valIs at h
  unfold valAt
  split
  · next h1 =>
    rw [if_pos h1] at h
    obtain ⟨v, hv⟩ := Option.isSome_iff_exists.1 h
    rw [hv]
    obtain ⟨_, _, h3, h4, h5⟩ := val_valU _ _ hv
    refine ⟨h4, h5, Nat.le_trans h3 ?_⟩
    unfold maxLen
    rw [List.getD_eq_getElem?_getD]
    cases hg : ws[2]? with
    | none => simp
    | some y =>
      have := hs y (List.mem_of_getElem? hg)
      show y.length ≤ _
      omega
  · exact zV_wf
/-- A Const's value that was read. -/
def ValR (op : Int) (ws : List (List UInt8)) (bv : Bool) (v : V) : Prop := bv = valIs op ws ∧ (bv = true → v = valAt op ws)
/-- What inst tells, out of what was read. -/
theorem in_read (ws : List (List UInt8)) (nn : Nat) (op a b c : Int) (v : V) (o bv : Bool) (hs : ∀ x ∈ ws, x.length ≤ 1099511627776) (hop : ir op) (hraw : rawI ws = ⟨op, atW ws nn 0, atW ws nn 1, atW ws nn 2, valAt op ws⟩)
    (hi : instU ws = if ((isW ws nn 0 && isW ws nn 1 && isW ws nn 2) && valIs op ws && okI (rawI ws)) = true then some (rawI ws) else none) (hO : OkS ws nn o a b c) (hv : ValR op ws bv v) :
    ((o && bv) = false → instU ws = none) ∧ ((o && bv) = true → In.wf ⟨op, a, b, c, v⟩ ∧ InP (instU ws) (.returned (.tuple #[(⟨op, a, b, c, v⟩ : In).val, .bool (okI ⟨op, a, b, c, v⟩)]))) := by
  rw [← hO.1, ← hv.1] at hi
  constructor
  · intro h
    rw [hi, h]
    rfl
  · intro h
    rw [h, Bool.true_and] at hi
    rw [Bool.and_eq_true] at h
    obtain ⟨g1, g2, g3⟩ := hO.2 h.1
    have g4 := hv.2 h.2
    have hx : rawI ws = ⟨op, a, b, c, v⟩ := by rw [hraw, g1, g2, g3, g4]
    have hw := hO.1
    rw [h.1] at hw
    have hw := hw.symm
    rw [Bool.and_eq_true, Bool.and_eq_true] at hw
    refine ⟨⟨by rw [g4]; exact val_wf ws op hs (by rw [← hv.1]; exact h.2), hop, by rw [g1]; exact at_ir _ _ _ hw.1.1, by rw [g2]; exact at_ir _ _ _ hw.1.2, by rw [g3]; exact at_ir _ _ _ hw.2⟩, ?_⟩
    rw [hi, hx]
    refine ⟨_, _, rfl, ?_, fun y hy => ?_⟩
    · cases okI ⟨op, a, b, c, v⟩ <;> rfl
    · split at hy
      · exact Option.some.inj hy
      · cases hy

theorem take_at14 {P : Program} {md : Region.Mode} {ops : Array Oper} {Q : Exit → Act → World → Prop} {S : World → Prop} {i d : Nat} {oi : Oper} {v : Value} {fuel : Nat} {listed : Array Bool} {a : Act} {w : World} (hi : ops[i]? = some oi) (hd : oi.dst = some d)
    (hs : Region.noSelect ops = true) (hf : Region.free md ops listed i = true) (hr : (Region.ready md ops listed).contains i = true)
    (hQ : ∀ c a w, Q (.panic c) (a.put oi.dst v) w → Q (.panic c) a w) (hy : YieldsIf P ops S oi v a) (hS : S w)
    (h : wpAnyH P md ops Q S fuel (listed.setIfInBounds i true) (a.put (some d) v) w) : wpAnyH P md ops Q S (fuel + 1) listed a w :=
  wpAnyH_take hi hs hf hr hQ hy hS (by rw [hd]; exact h)
theorem kp_put7 {S : Nat → Prop} (w : World) (q : Nat) (y : In) (h : S q) : Kp S w (put7 w q y) :=
  ((((((Kp.setCell w q 0 _ h).then (Kp.setCell _ q 1 _ h)).then (Kp.setCell _ q 2 _ h)).then (Kp.setCell _ q 3 _ h)).then (Kp.setCell _ q 4 _ h)).then (Kp.setCell _ q 5 _ h)).then (Kp.setCell _ q 6 _ h)

set_option maxRecDepth 100000 in
set_option maxHeartbeats 2500000 in
theorem rinst14_any (v : Value) (ws : List (List UInt8)) (w : World) (hS : Wds w v ws) (hne : ws ≠ []) (hsz : ∀ x ∈ ws, x.length ≤ 1099511627776) :
    Calls Tryz.prog 15 #[v] w fun e w' => InP (instU ws) e ∧ w.grownBy w' none := by
  obtain ⟨q, off, c, rfl, hq, hW⟩ := hS.open hne
  have hga := World.grownBy_alloc w (.cells #[.int .i64 0, .int .i64 0, .int .i64 0, .int .i64 0, .int .i64 0, .int .i64 0, .string ⟨#[]⟩] 35) none
  have hb : Ib (w.alloc (.cells #[.int .i64 0, .int .i64 0, .int .i64 0, .int .i64 0, .int .i64 0, .int .i64 0, .string ⟨#[]⟩] 35)) w.heap.size ⟨0, 0, 0, 0, ⟨0, 0, ⟨#[]⟩⟩⟩ := Ib.new w ⟨0, 0, 0, 0, ⟨0, 0, ⟨#[]⟩⟩⟩
  have hl : 0 < ws.length := List.length_pos_iff.2 hne
  have Hcell : Hid (∀ W', w.grownBy W' none → W'.cell? ⟨q, off, none⟩ = some (.string (mkB (ws.headD [])))) := by
    intro W' hg
    have := hW.kept hq hg 0 hl
    rw [Nat.add_zero, head_getD] at this
    exact this
  have Hwc : Hid (∀ W' i, w.grownBy W' none → i < ws.length → W'.cell? ⟨q, off + i, none⟩ = some (.string (mkB (ws.getD i [])))) := fun W' i hg hi => hW.kept hq hg i hi
  have Hsw := hide hsz
  have Hnames : Hid (∀ W, Calls Tryz.prog 28 #[] W fun e w' => e = .returned (.slice (some ⟨W.heap.size, 0, none⟩) 19 19) ∧ w' = W.alloc (.cells nmC 9)) := rnames_any
  have h1len : 1 ≤ ws.length := hl
  have hl0 : (0 : Int) < (ws.length : Int) := by omega
  obtain ⟨N, HN⟩ : ∃ N, Hid (ws.length = N) := ⟨_, rfl⟩
  have Hmain := hide (instU_raw ws)
  have Hbad := hide (instU_bad ws)
  obtain ⟨w0, Hw0⟩ : ∃ x, Hid (ws.headD [] = x) := ⟨_, rfl⟩
  rw [Hw0.out] at Hcell Hmain Hbad
  obtain ⟨X, HX⟩ : ∃ X, Hid (mkB w0 = X) := ⟨_, rfl⟩
  rw [HX.out] at Hcell
  rw [HN.out] at hl0 ⊢
  generalize nmC = C at *
  generalize hW1 : w.alloc (.cells #[.int .i64 0, .int .i64 0, .int .i64 0, .int .i64 0, .int .i64 0, .int .i64 0, .string ⟨#[]⟩] 35) = W1 at *
  have HW1 := hide hW1
  clear hW1 hS hW hne hsz hl hq h1len
  go_enter Tryz.func15, Tryz.ntmps15
  go_upto_region 1 with fail
  rw [HW1.out]
  go_wp2_with fail
  go_loopw [4, 5] (fun o i wr => ∃ (k : Nat) (z : Int), 1 ≤ k ∧ k ≤ 20 ∧ i = .int .i64 (k : Int) ∧ o = .int .i64 z ∧ Hid (z = opK w0 k) ∧ W1.grownBy wr none) (fun _ i _ => 20 - (intOf i).toNat)
  case atStart => exact ⟨1, 0, by omega, by omega, rfl, rfl, (opK_one w0).symm, World.grownBy.refl _ _⟩
  case round =>
    obtain ⟨k, z, hk1, hk20, rfl, rfl, Hz, hg⟩ := hrel
    by_cases hlt : k ≤ 19
    · have hlt' : (k : Int) ≤ 19 := by omega
      have Hnm : Hid (∀ W, Calls Tryz.prog 29 #[.int .i64 (k : Int)] W fun e w' => e = .returned (.string (mkB (nameB (k : Int)))) ∧ W.grownBy w' none) := fun W => rname_any (k : Int) W (by omega) (by omega)
      have hgn : w.grownBy (wr.alloc (.cells C 9)).drew none := grown_up (grown_up (grown_up hga hg) (World.grownBy_alloc _ _ _)) (grown_drew _)
      have dr := Hcell.out _ hgn
      by_cases he : nameB (k : Int) = w0
      · have Hn : Hid ((k : Int) = opK w0 (k + 1)) := (opK_hit w0 k hk1 hlt he).symm
        have hbt : ((mkB (nameB (k : Int))).toList == X.toList) = true := by rw [he, HX.out]; simp
        generalize mkB (nameB (k : Int)) = Y at *
        clear he hk20 hlt
        go_upto_region 5 with (go_at_call 28; refine (Hnames.out _).mono ?_; rintro e w' ⟨rfl, rfl⟩)
        go_region_held_law (fun W => W.cell? ⟨q, off, none⟩ = some (.string X)) (first | assumption | exact dr) ((go_at_call 29; refine (Hnm.out _).mono ?_; rintro e w3 ⟨rfl, hg3⟩; have hc3 := Hcell.out w3 (grown_up hgn hg3)))
        all_goals go_wp2
        all_goals go_roundw
        all_goals first
          | (simp [intOf]; omega)
          | exact ⟨k + 1, _, by omega, by omega, by go_num, rfl, Hn, grown_up (grown_up (grown_up hg (World.grownBy_alloc _ _ _)) (grown_drew _)) hg3⟩
      · have Hn : Hid (z = opK w0 (k + 1)) := by show _ = _; rw [Hz.out]; exact (opK_miss w0 k hk1 hlt he).symm
        have hbt : ((mkB (nameB (k : Int))).toList == X.toList) = false := by
          rw [bytes_eq, ← HX.out]
          exact decide_eq_false (fun h => he (mkB_inj h))
        generalize mkB (nameB (k : Int)) = Y at *
        clear he hk20 hlt
        go_upto_region 5 with (go_at_call 28; refine (Hnames.out _).mono ?_; rintro e w' ⟨rfl, rfl⟩)
        go_region_held_law (fun W => W.cell? ⟨q, off, none⟩ = some (.string X)) (first | assumption | exact dr) ((go_at_call 29; refine (Hnm.out _).mono ?_; rintro e w3 ⟨rfl, hg3⟩; have hc3 := Hcell.out w3 (grown_up hgn hg3)))
        all_goals go_wp2
        all_goals go_roundw
        all_goals first
          | (simp [intOf]; omega)
          | exact ⟨k + 1, _, by omega, by omega, by go_num, rfl, Hn, grown_up (grown_up (grown_up hg (World.grownBy_alloc _ _ _)) (grown_drew _)) hg3⟩
    · have Hop : Hid (z = opU w0) := by show _ = _; rw [Hz.out, show k = 20 by omega, opK_end]
      have Hgg := hide (grown_up hg (World.grownBy_alloc wr (.cells C 9) none))
      have hktest : ¬ (k : Int) ≤ 19 := by omega
      clear hlt hk1 hk20 hg
      go_upto_region 7 with (go_at_call 28; refine (Hnames.out _).mono ?_; rintro e w' ⟨rfl, rfl⟩)
      generalize wr.alloc (.cells C 9) = W2 at *
      rw [← Hop.out] at Hmain Hbad
      have hgw := grown_up hga Hgg.out
      have hbr := hb.kept Hgg.out (by simp)
      obtain ⟨d0, d1, d2, d3, d4, d5, d6⟩ := hbr.cs
      have f0 := hbr.fz 0; have f1 := hbr.fz 1; have f2 := hbr.fz 2; have f3 := hbr.fz 3; have f4 := hbr.fz 4; have f5 := hbr.fz 5; have f6 := hbr.fz 6
      dsimp only at d0 d1 d2 d3 d4 d5 d6
      have hP := hbr.put7 zI
      have HP1 := hide hP.1
      have HP2 := hide (grown_new hgw hP.2 (fun j e => by cases e; exact Nat.le_refl _))
      have Hbr := hide hbr
      clear hb hP hbr hktest
      have hopd := roperands_any z
      cases hok : opOk z with
      | false =>
        have hnI : nOpI z = 0 := by unfold nOpI; rw [hok]; rfl
        rw [hnI, hok] at hopd
        have Hopd := hide hopd
        have hz1 : (z == 1) = false := by
          rw [beq_eq_false_iff_ne]
          intro e
          rw [e] at hok
          exact absurd hok (by decide)
        have Hno : Hid (instU ws = none) := Hbad.out (fun h => by rw [hok] at h; cases h.1)
        clear hopd hnI hok
        go_wp2_with (go_at_call 30; refine (Hopd.out _).mono ?_; rintro e w3 ⟨rfl, rfl⟩)
        refine bodyPost_ret (results_ib2 rfl _ w.heap.size _ zI _ rfl rfl HP1.out) rfl ?_
        exact ⟨inP_none _ Hno.out, HP2.out⟩
      | true =>
        obtain ⟨nn, HNn⟩ : ∃ nn : Nat, Hid (nOps z = nn) := ⟨_, rfl⟩
        have hnI : nOpI z = (nn : Int) := by unfold nOpI; rw [hok, if_pos rfl, HNn.out]
        have hn3 : nn ≤ 3 := by have := HNn.out; have := nOps_le z; omega
        rw [hnI, hok] at hopd
        have Hopd := hide hopd
        have Hok := hide hok
        have Hwant : Hid (wantW z = 1 + nn + (if z = 1 then 1 else 0)) := by show _ = _; unfold wantW; rw [HNn.out]
        clear hopd hnI hok
        by_cases hm : ws.length = wantW z
        · have Hraw : Hid (rawI ws = ⟨z, atW ws nn 0, atW ws nn 1, atW ws nn 2, valAt z ws⟩) := by show _ = _; unfold rawI; rw [Hw0.out, ← Hop.out, HNn.out]
          have Hi := hide (Hmain.out Hok.out hm)
          rw [HNn.out] at Hi
          have Hopi : Hid (ir z) := by
            show ir _
            have := of_decide_eq_true Hok.out
            unfold ir
            omega
          have Hin := hide (fun a b c v o bv => in_read ws nn z a b c v o bv Hsw.out Hopi.out Hraw.out Hi.out)
          have hNw : N = 1 + nn + (if z = 1 then 1 else 0) := by rw [← HN.out, hm, Hwant.out]
          have hNn : 1 + nn ≤ N := by omega
          have hg3 := grown_up hgw (World.grownBy_alloc W2 (.cells #[.int .i64 0, .int .i64 0, .int .i64 0] 3) none)
          have hA0 : Ac (W2.alloc (.cells #[.int .i64 0, .int .i64 0, .int .i64 0] 3)) W2.heap.size 0 0 0 := heap_alloc_new W2 _
          have hB0 := Hbr.out.kept (World.grownBy_alloc W2 (.cells #[.int .i64 0, .int .i64 0, .int .i64 0] 3) none) (by simp)
          have hpb : w.heap.size < W2.heap.size := Hbr.out.lt
          have hpw : w.heap.size ≤ W2.heap.size := hgw.size
          clear d0 d1 d2 d3 d4 d5 d6 f0 f1 f2 f3 f4 f5 f6 HP1 HP2 hm
          by_cases e1 : z = 1
          · have hz1 : (z == 1) = true := by simp [e1]
            have hne : ((N : Int) != 1 + (nn : Int) + 1) = false := by
              rw [bne_eq_false_iff_eq]
              rw [if_pos e1] at hNw
              omega
            have hN2 : 2 < N := by
              have h5 := HNn.out
              rw [e1] at h5
              have h6 : nOps 1 = 1 := nOps1
              rw [if_pos e1] at hNw
              omega
            have HvU : Hid (∀ (x : V) (bv : Bool), bv = (valU (ws.getD 2 [])).isSome → (∀ v, valU (ws.getD 2 []) = some v → x = v) → ValR z ws bv x) := by
              intro x bv h1 h2
              refine ⟨by unfold valIs; rw [if_pos e1]; exact h1, fun hb => ?_⟩
              unfold valAt
              rw [if_pos e1]
              rw [hb] at h1
              obtain ⟨v, hv⟩ := Option.isSome_iff_exists.1 h1.symm
              rw [h2 v hv, hv]
              rfl
            clear e1 hNw
            go_wp2_with (go_at_call 30; refine (Hopd.out _).mono ?_; rintro e w3 ⟨rfl, hw3⟩; have hw3 := hw3.symm; subst hw3)
            generalize W2.alloc (.cells #[.int .i64 0, .int .i64 0, .int .i64 0] 3) = W3 at *
            generalize W2.heap.size = p at *
            go_loopw [7, 10] (fun o i wr' => ∃ (k2 : Nat) (a b cc : Int) (ob : Bool), k2 ≤ nn ∧ i = .int .i64 (k2 : Int) ∧ o = .bool ob ∧ Ac wr' p a b cc ∧ Ib wr' w.heap.size ⟨0, 0, 0, 0, ⟨0, 0, ⟨#[]⟩⟩⟩ ∧ w.grownBy wr' none ∧ Hid (OkS ws k2 ob a b cc)) (fun _ i _ => nn - (intOf i).toNat)
            case atStart => exact ⟨0, 0, 0, 0, true, by omega, rfl, rfl, hA0, hB0, hg3, OkS.zero ws⟩
            case round =>
              clear hA0 hB0 hg3
              obtain ⟨k2, a, b, cc, ob, hk2, rfl, rfl, hA, hB, hgr, HO⟩ := hrel
              by_cases hlt : k2 < nn
              · have hmN : 1 + (k2 : Int) < (N : Int) := by omega
                have k3 : k2 < 3 := by omega
                have k3' : (k2 : Int) < 3 := by omega
                have hcm : wr.cell? ⟨q, off + (1 + k2), none⟩ = some (.string (mkB (ws.getD (1 + k2) []))) := Hwc.out _ (1 + k2) hgr (by rw [HN.out]; omega)
                have Hnum : Hid (∀ W, Calls Tryz.prog 31 #[.string (mkB (ws.getD (1 + k2) []))] W fun e w' => NumP (numW (ws.getD (k2 + 1) [])) e ∧ w' = W) := by
                  intro W
                  have h := rnumber_any (mkB (ws.getD (1 + k2) [])) W (by
                    rw [mkB_size]
                    have h2 : 1 + k2 < ws.length := by rw [HN.out]; omega
                    have := Hsw.out _ (List.getElem_mem h2)
                    rw [List.getD_eq_getElem?_getD, List.getElem?_eq_getElem h2]
                    show _ ≤ maxLen
                    unfold maxLen
                    show ws[1 + k2].length ≤ _
                    omega)
                  rw [mkB_list, Nat.add_comm 1 k2] at h
                  rw [Nat.add_comm 1 k2]
                  exact h
                generalize mkB (ws.getD (1 + k2) []) = Y at *
                have hP := fun v => hA.put k2 k3 v
                obtain ⟨u, hu⟩ := (hP 0).2.2
                have hf := hA.fz k2
                have HPw := hide (fun v => grown_new hgr (hP v).2.1 (fun j e => by cases e; omega))
                have HPb := hide (fun v => hB.kept (hP v).2.1 (by simp; omega))
                have HPa := hide (fun v => (hP v).1)
                clear hP hk2
                go_upto_region 18 with (go_at_call 31; refine (Hnum.out _).mono ?_; rintro e w3 ⟨⟨z0, bb, rfl, hz⟩, rfl⟩; have Hz0 := hide hz; clear hz)
                cases ob with
                | false =>
                  have Hnew := hide (HO.out.step k3 Hz0.out false rfl)
                  go_wp2_with fail
                  go_roundw
                  case rel => exact ⟨k2 + 1, _, _, _, _, by omega, by go_num, rfl, HPa.out z0, HPb.out z0, HPw.out z0, Hnew⟩
                  case measure => simp [intOf]; omega
                | true =>
                  cases bb with
                  | false =>
                    have Hnew := hide (HO.out.step k3 Hz0.out false rfl)
                    go_wp2_with fail
                    go_roundw
                    case rel => exact ⟨k2 + 1, _, _, _, _, by omega, by go_num, rfl, HPa.out z0, HPb.out z0, HPw.out z0, Hnew⟩
                    case measure => simp [intOf]; omega
                  | true =>
                    by_cases g0 : 0 ≤ z0
                    · by_cases g1 : z0 ≤ 255
                      · have Hnew := hide (HO.out.step k3 Hz0.out true (by rw [decide_eq_true ⟨g0, g1⟩]; rfl))
                        go_wp2_with fail
                        go_roundw
                        case rel => exact ⟨k2 + 1, _, _, _, _, by omega, by go_num, rfl, HPa.out z0, HPb.out z0, HPw.out z0, Hnew⟩
                        case measure => simp [intOf]; omega
                      · have Hnew := hide (HO.out.step k3 Hz0.out false (by rw [decide_eq_false (fun h => g1 h.2)]; rfl))
                        have g1' : decide (z0 ≤ 255) = false := decide_eq_false g1
                        go_wp2_with fail
                        go_roundw
                        case rel => exact ⟨k2 + 1, _, _, _, _, by omega, by go_num, rfl, HPa.out z0, HPb.out z0, HPw.out z0, Hnew⟩
                        case measure => simp [intOf]; omega
                    · have Hnew := hide (HO.out.step k3 Hz0.out false (by rw [decide_eq_false (fun h => g0 h.1)]; rfl))
                      have g0' : decide (0 ≤ z0) = false := decide_eq_false g0
                      go_wp2_with fail
                      go_roundw
                      case rel => exact ⟨k2 + 1, _, _, _, _, by omega, by go_num, rfl, HPa.out z0, HPb.out z0, HPw.out z0, Hnew⟩
                      case measure => simp [intOf]; omega
              · have hOn : Hid (OkS ws nn ob a b cc) := by have e : k2 = nn := by omega
                                                           show OkS _ _ _ _ _ _
                                                           rw [← e]; exact HO.out
                clear HO hk2
                obtain ⟨o0, o1, o2⟩ := hA.cs
                obtain ⟨p0, p1, p2⟩ := (hA.kept (World.grownBy_alloc wr (.cells #[.int .i64 0, .int .i64 0, .int .i64 0, .int .i64 0, .int .i64 0, .int .i64 0, .string ⟨#[]⟩] 35) none) (by simp)).cs
                go_upto_region 20 with fail
                go_region
                all_goals go_upto_region 21 with fail
                have hM0 : Ib (wr.alloc (.cells #[.int .i64 z, .int .i64 a, .int .i64 b, .int .i64 cc, .int .i64 0, .int .i64 0, .string ⟨#[]⟩] 35)).drew wr.heap.size ⟨z, a, b, cc, ⟨0, 0, ⟨#[]⟩⟩⟩ := Ib.new wr ⟨z, a, b, cc, ⟨0, 0, ⟨#[]⟩⟩⟩
                have hB50 := (hB.kept (World.grownBy_alloc wr (.cells #[.int .i64 z, .int .i64 a, .int .i64 b, .int .i64 cc, .int .i64 0, .int .i64 0, .string ⟨#[]⟩] 35) none) (by simp)).kept (grown_drew _) (by simp)
                have hg50 := grown_up (grown_up hgr (World.grownBy_alloc wr (.cells #[.int .i64 z, .int .i64 a, .int .i64 b, .int .i64 cc, .int .i64 0, .int .i64 0, .string ⟨#[]⟩] 35) none)) (grown_drew _)
                generalize (wr.alloc (.cells #[.int .i64 z, .int .i64 a, .int .i64 b, .int .i64 cc, .int .i64 0, .int .i64 0, .string ⟨#[]⟩] 35)).drew = W5 at *
                have hg1e' : wr.heap.size < W5.heap.size := hM0.lt
                obtain ⟨g1, hg1e⟩ : ∃ g1, wr.heap.size = g1 := ⟨_, rfl⟩
                rw [hg1e] at hM0 ⊢
                have hne1 : g1 ≠ w.heap.size := by rw [← hg1e]; have := hB.lt; omega
                have hwg : w.heap.size ≤ g1 := by rw [← hg1e]; exact hgr.size
                have hcv : W5.cell? ⟨q, off + 2, none⟩ = some (.string (mkB (ws.getD 2 []))) := Hwc.out W5 2 hg50 (by rw [HN.out]; exact hN2)
                have hN2' : (2 : Int) < (N : Int) := by omega
                have huv := fun W => runvalue_any (mkB (ws.getD 2 [])) W (by
                  rw [mkB_size]
                  have h2 : 2 < ws.length := by rw [HN.out]; exact hN2
                  have := Hsw.out _ (List.getElem_mem h2)
                  rw [List.getD_eq_getElem?_getD, List.getElem?_eq_getElem h2]
                  exact this)
                rw [mkB_list] at huv
                have Huv := hide huv
                clear huv hA o0 o1 o2 p0 p1 p2 hN2
                go_upto_region 22 with fail
                go_wp2_with fail
                refine (Huv.out _).mono ?_
                rintro e w6 ⟨⟨xv, bv, rfl, hx1, hx2⟩, hg6⟩
                have HvR := hide (HvU.out xv bv hx1 hx2)
                have hgx := World.grownBy_alloc w6 (.cells #[.int .i64 xv.k, .int .i64 xv.n, .string xv.s] 33) none
                have V6 := Vb.new w6 xv
                have hM6 := (hM0.kept hg6 (by simp)).kept hgx (by simp)
                have hB6 := (hB50.kept hg6 (by simp)).kept hgx (by simp)
                have hg60 := grown_up (grown_up hg50 hg6) hgx
                have hlt6 : g1 < w6.heap.size := Nat.lt_of_lt_of_le hM0.lt hg6.size
                clear hM0 hB50 hg50 hcv hg6 hgx hx1 hx2 HvU
                unfold V.val
                go_upto_region 23 with fail
                generalize w6.alloc (.cells #[.int .i64 xv.k, .int .i64 xv.n, .string xv.s] 33) = W6 at *
                generalize w6.heap.size = gv at *
                have v0 := V6.c0; have v1 := V6.c1; have v2 := V6.c2
                obtain ⟨_, _, _, _, e4, e5, e6⟩ := hM6.cs
                try dsimp only at e4 e5 e6
                have z4 := hM6.fz 4; have z5 := hM6.fz 5; have z6 := hM6.fz 6
                have hP3 := hM6.put3 xv
                have hM0 : Ib (put3 W6 g1 xv) g1 ⟨z, a, b, cc, xv⟩ := hP3.1
                have hB50 := hB6.kept hP3.2 (by simp; exact fun e => hne1 e.symm)
                have hg50 := grown_new hg60 hP3.2 (fun j e => by cases e; exact hwg)
                clear hM6 hB6 hg60 hP3
                unfold put3 at hM0 hB50 hg50
                go_upto_region 24 with fail
                clear v0 v1 v2 e4 e5 e6 z4 z5 z6 V6
                generalize ((W6.setCell ⟨g1, 4, none⟩ (.int .i64 xv.k)).setCell ⟨g1, 5, none⟩ (.int .i64 xv.n)).setCell ⟨g1, 6, none⟩ (.string xv.s) = W5 at *
                have hM := hM0
                have hB5 := hB50
                have hg5 := hg50
                have Hans := hide (Hin.out a b cc xv ob bv hOn.out HvR.out)
                clear hM0 hB50 hg50
                obtain ⟨okf, hokf⟩ : ∃ okf, (ob && bv) = okf := ⟨_, rfl⟩
                rw [hokf] at Hans
                cases ob with
                | false =>
                  have hokf : false = okf := by rw [← hokf]; rfl
                  subst hokf
                  have hgm : w.heap.size < W5.heap.size := hB5.lt
                  have nq : ¬ only w.heap.size g1 := fun e => hne1 e
                  have hBd := hB5.kept (grown_drew W5) (by simp)
                  have hgd := grown_up hg5 (grown_drew W5)
                  have HMs := hide hM
                  obtain ⟨m0, m1, m2, m3, m4, m5, m6⟩ := hM.cs
                  try dsimp only at m0 m1 m2 m3 m4 m5 m6
                  have Hno := hide (Hans.out.1 rfl)
                  obtain ⟨d0, d1, d2, d3, d4, d5, d6⟩ := hB5.cs
                  have f0 := hB5.fz 0; have f1 := hB5.fz 1; have f2 := hB5.fz 2; have f3 := hB5.fz 3; have f4 := hB5.fz 4; have f5 := hB5.fz 5; have f6 := hB5.fz 6
                  try dsimp only at d0 d1 d2 d3 d4 d5 d6
                  have hP := hB5.put7 ⟨z, a, b, cc, xv⟩
                  have HP1 : Hid (Ib (put7 W5 w.heap.size ⟨z, a, b, cc, xv⟩).drew w.heap.size ⟨z, a, b, cc, xv⟩) := hP.1.kept (grown_drew _) (by simp)
                  have HP2 := hide (grown_up (grown_new hg5 hP.2 (fun j e => by cases e; exact Nat.le_refl _)) (grown_drew _))
                  clear hP hM hB5 hBd hg5 hgd
                  go_upto_region 25 with fail
                  refine wp_region_held_drew (S := fun W' => Kp (only w.heap.size) W5 W') (by kernel_rfl) (Kp.drew (only w.heap.size) _) (fun hHeld => ?_)
                  refine take_at14 (i := 0) (d := 106) (v := ?_) rfl rfl (by kernel_rfl) (by kernel_rfl) (by kernel_rfl) (fun _ _ _ h => h) (Or.inl ⟨by rfl, ?_⟩) (by assumption) ?_
                  rotate_left
                  · intro W hSW
                    try dsimp only at hSW
                    have h0 := hSW.cell m0 nq
                    have h1 := hSW.cell m1 nq
                    have h2 := hSW.cell m2 nq
                    have h3 := hSW.cell m3 nq
                    have h4 := hSW.cell m4 nq
                    have h5 := hSW.cell m5 nq
                    have h6 := hSW.cell m6 nq
                    go_simp
                    try with_reducible rfl
                  try simp only [Act.put, List.setIfInBounds_toArray, List.set_cons_zero, List.set_cons_succ]
                  refine take_at14 (i := 1) (d := 107) (v := ?_) rfl rfl (by kernel_rfl) (by kernel_rfl) (by kernel_rfl) (fun _ _ _ h => h) (Or.inl ⟨by rfl, ?_⟩) (by assumption) ?_
                  rotate_left
                  · intro W hSW
                    try dsimp only at hSW
                    have h0 := hSW.cell m0 nq
                    have h1 := hSW.cell m1 nq
                    have h2 := hSW.cell m2 nq
                    have h3 := hSW.cell m3 nq
                    have h4 := hSW.cell m4 nq
                    have h5 := hSW.cell m5 nq
                    have h6 := hSW.cell m6 nq
                    go_simp
                    try with_reducible rfl
                  try simp only [Act.put, List.setIfInBounds_toArray, List.set_cons_zero, List.set_cons_succ]
                  refine take_at14 (i := 2) (d := 108) (v := ?_) rfl rfl (by kernel_rfl) (by kernel_rfl) (by kernel_rfl) (fun _ _ _ h => h) (Or.inl ⟨by rfl, ?_⟩) (by assumption) ?_
                  rotate_left
                  · intro W hSW
                    try dsimp only at hSW
                    have h0 := hSW.cell m0 nq
                    have h1 := hSW.cell m1 nq
                    have h2 := hSW.cell m2 nq
                    have h3 := hSW.cell m3 nq
                    have h4 := hSW.cell m4 nq
                    have h5 := hSW.cell m5 nq
                    have h6 := hSW.cell m6 nq
                    go_simp
                    try with_reducible rfl
                  try simp only [Act.put, List.setIfInBounds_toArray, List.set_cons_zero, List.set_cons_succ]
                  refine take_at14 (i := 3) (d := 109) (v := undef) rfl rfl (by kernel_rfl) (by kernel_rfl) (by kernel_rfl) (fun _ _ _ h => h) (Or.inr ⟨by rfl, rfl⟩) (by assumption) ?_
                  try simp only [Act.put, List.setIfInBounds_toArray, List.set_cons_zero, List.set_cons_succ]
                  refine take_at14 (i := 4) (d := 110) (v := undef) rfl rfl (by kernel_rfl) (by kernel_rfl) (by kernel_rfl) (fun _ _ _ h => h) (Or.inr ⟨by rfl, rfl⟩) (by assumption) ?_
                  try simp only [Act.put, List.setIfInBounds_toArray, List.set_cons_zero, List.set_cons_succ]
                  refine take_at14 (i := 5) (d := 111) (v := ?_) rfl rfl (by kernel_rfl) (by kernel_rfl) (by kernel_rfl) (fun _ _ _ h => h) (Or.inl ⟨by rfl, ?_⟩) (by assumption) ?_
                  rotate_left
                  · intro W hSW
                    try dsimp only at hSW
                    have h0 := hSW.cell m0 nq
                    have h1 := hSW.cell m1 nq
                    have h2 := hSW.cell m2 nq
                    have h3 := hSW.cell m3 nq
                    have h4 := hSW.cell m4 nq
                    have h5 := hSW.cell m5 nq
                    have h6 := hSW.cell m6 nq
                    go_simp
                    try with_reducible rfl
                  try simp only [Act.put, List.setIfInBounds_toArray, List.set_cons_zero, List.set_cons_succ]
                  refine wpAnyH_ready (rs := [6]) (by kernel_rfl) (by simp) ?_
                  refine AllReadyH.cons rfl (fun K hK => ?_) AllReadyH.nil
                  go_simp
                  refine hK.out _ _ ((kp_put7 (S := only w.heap.size) W5 w.heap.size ⟨z, a, b, cc, xv⟩ rfl).then (Kp.drew (only w.heap.size) _)) (fun hHeld => ?_)
                  clear hK K
                  try simp only [Act.put, List.setIfInBounds_toArray, List.set_cons_zero, List.set_cons_succ]
                  refine take_at14 (i := 7) (d := 3) (v := ?_) rfl rfl (by kernel_rfl) (by kernel_rfl) (by kernel_rfl) (fun _ _ _ h => h) (Or.inl ⟨by rfl, ?_⟩) (by assumption) ?_
                  rotate_left
                  · intro W hSW
                    try dsimp only at hSW
                    have h0 := hSW.cell m0 nq
                    have h1 := hSW.cell m1 nq
                    have h2 := hSW.cell m2 nq
                    have h3 := hSW.cell m3 nq
                    have h4 := hSW.cell m4 nq
                    have h5 := hSW.cell m5 nq
                    have h6 := hSW.cell m6 nq
                    go_simp
                    try with_reducible rfl
                  try simp only [Act.put, List.setIfInBounds_toArray, List.set_cons_zero, List.set_cons_succ]
                  refine wpAnyH_done (by kernel_rfl) ?_ _
                  go_wp2
                  refine bodyPost_ret (results_ib2 rfl _ w.heap.size _ ⟨z, a, b, cc, xv⟩ _ rfl rfl HP1.out) rfl ?_
                  exact ⟨inP_none _ Hno.out, HP2.out⟩
                | true =>
                  have hokf : bv = okf := by rw [← hokf]; rfl
                  subst hokf
                  obtain ⟨okf, hokf⟩ : ∃ okf, bv = okf := ⟨_, rfl⟩
                  subst hokf
                  have hgm : w.heap.size < W5.heap.size := hB5.lt
                  have nq : ¬ only w.heap.size g1 := fun e => hne1 e
                  have hBd := hB5.kept (grown_drew W5) (by simp)
                  have hgd := grown_up hg5 (grown_drew W5)
                  have HMs := hide hM
                  obtain ⟨m0, m1, m2, m3, m4, m5, m6⟩ := hM.cs
                  try dsimp only at m0 m1 m2 m3 m4 m5 m6
                  cases bv with
                  | false =>
                    have Hno := hide (Hans.out.1 rfl)
                    obtain ⟨d0, d1, d2, d3, d4, d5, d6⟩ := hB5.cs
                    have f0 := hB5.fz 0; have f1 := hB5.fz 1; have f2 := hB5.fz 2; have f3 := hB5.fz 3; have f4 := hB5.fz 4; have f5 := hB5.fz 5; have f6 := hB5.fz 6
                    try dsimp only at d0 d1 d2 d3 d4 d5 d6
                    have hP := hB5.put7 ⟨z, a, b, cc, xv⟩
                    have HP1 : Hid (Ib (put7 W5 w.heap.size ⟨z, a, b, cc, xv⟩).drew w.heap.size ⟨z, a, b, cc, xv⟩) := hP.1.kept (grown_drew _) (by simp)
                    have HP2 := hide (grown_up (grown_new hg5 hP.2 (fun j e => by cases e; exact Nat.le_refl _)) (grown_drew _))
                    clear hP hM hB5 hBd hg5 hgd
                    go_upto_region 25 with fail
                    refine wp_region_held_drew (S := fun W' => Kp (only w.heap.size) W5 W') (by kernel_rfl) (Kp.drew (only w.heap.size) _) (fun hHeld => ?_)
                    refine take_at14 (i := 0) (d := 106) (v := ?_) rfl rfl (by kernel_rfl) (by kernel_rfl) (by kernel_rfl) (fun _ _ _ h => h) (Or.inl ⟨by rfl, ?_⟩) (by assumption) ?_
                    rotate_left
                    · intro W hSW
                      try dsimp only at hSW
                      have h0 := hSW.cell m0 nq
                      have h1 := hSW.cell m1 nq
                      have h2 := hSW.cell m2 nq
                      have h3 := hSW.cell m3 nq
                      have h4 := hSW.cell m4 nq
                      have h5 := hSW.cell m5 nq
                      have h6 := hSW.cell m6 nq
                      go_simp
                      try with_reducible rfl
                    try simp only [Act.put, List.setIfInBounds_toArray, List.set_cons_zero, List.set_cons_succ]
                    refine take_at14 (i := 1) (d := 107) (v := ?_) rfl rfl (by kernel_rfl) (by kernel_rfl) (by kernel_rfl) (fun _ _ _ h => h) (Or.inl ⟨by rfl, ?_⟩) (by assumption) ?_
                    rotate_left
                    · intro W hSW
                      try dsimp only at hSW
                      have h0 := hSW.cell m0 nq
                      have h1 := hSW.cell m1 nq
                      have h2 := hSW.cell m2 nq
                      have h3 := hSW.cell m3 nq
                      have h4 := hSW.cell m4 nq
                      have h5 := hSW.cell m5 nq
                      have h6 := hSW.cell m6 nq
                      go_simp
                      try with_reducible rfl
                    try simp only [Act.put, List.setIfInBounds_toArray, List.set_cons_zero, List.set_cons_succ]
                    refine take_at14 (i := 2) (d := 108) (v := ?_) rfl rfl (by kernel_rfl) (by kernel_rfl) (by kernel_rfl) (fun _ _ _ h => h) (Or.inl ⟨by rfl, ?_⟩) (by assumption) ?_
                    rotate_left
                    · intro W hSW
                      try dsimp only at hSW
                      have h0 := hSW.cell m0 nq
                      have h1 := hSW.cell m1 nq
                      have h2 := hSW.cell m2 nq
                      have h3 := hSW.cell m3 nq
                      have h4 := hSW.cell m4 nq
                      have h5 := hSW.cell m5 nq
                      have h6 := hSW.cell m6 nq
                      go_simp
                      try with_reducible rfl
                    try simp only [Act.put, List.setIfInBounds_toArray, List.set_cons_zero, List.set_cons_succ]
                    refine take_at14 (i := 3) (d := 109) (v := undef) rfl rfl (by kernel_rfl) (by kernel_rfl) (by kernel_rfl) (fun _ _ _ h => h) (Or.inr ⟨by rfl, rfl⟩) (by assumption) ?_
                    try simp only [Act.put, List.setIfInBounds_toArray, List.set_cons_zero, List.set_cons_succ]
                    refine take_at14 (i := 4) (d := 110) (v := undef) rfl rfl (by kernel_rfl) (by kernel_rfl) (by kernel_rfl) (fun _ _ _ h => h) (Or.inr ⟨by rfl, rfl⟩) (by assumption) ?_
                    try simp only [Act.put, List.setIfInBounds_toArray, List.set_cons_zero, List.set_cons_succ]
                    refine take_at14 (i := 5) (d := 111) (v := ?_) rfl rfl (by kernel_rfl) (by kernel_rfl) (by kernel_rfl) (fun _ _ _ h => h) (Or.inl ⟨by rfl, ?_⟩) (by assumption) ?_
                    rotate_left
                    · intro W hSW
                      try dsimp only at hSW
                      have h0 := hSW.cell m0 nq
                      have h1 := hSW.cell m1 nq
                      have h2 := hSW.cell m2 nq
                      have h3 := hSW.cell m3 nq
                      have h4 := hSW.cell m4 nq
                      have h5 := hSW.cell m5 nq
                      have h6 := hSW.cell m6 nq
                      go_simp
                      try with_reducible rfl
                    try simp only [Act.put, List.setIfInBounds_toArray, List.set_cons_zero, List.set_cons_succ]
                    refine wpAnyH_ready (rs := [6]) (by kernel_rfl) (by simp) ?_
                    refine AllReadyH.cons rfl (fun K hK => ?_) AllReadyH.nil
                    go_simp
                    refine hK.out _ _ ((kp_put7 (S := only w.heap.size) W5 w.heap.size ⟨z, a, b, cc, xv⟩ rfl).then (Kp.drew (only w.heap.size) _)) (fun hHeld => ?_)
                    clear hK K
                    try simp only [Act.put, List.setIfInBounds_toArray, List.set_cons_zero, List.set_cons_succ]
                    refine take_at14 (i := 7) (d := 3) (v := ?_) rfl rfl (by kernel_rfl) (by kernel_rfl) (by kernel_rfl) (fun _ _ _ h => h) (Or.inl ⟨by rfl, ?_⟩) (by assumption) ?_
                    rotate_left
                    · intro W hSW
                      try dsimp only at hSW
                      have h0 := hSW.cell m0 nq
                      have h1 := hSW.cell m1 nq
                      have h2 := hSW.cell m2 nq
                      have h3 := hSW.cell m3 nq
                      have h4 := hSW.cell m4 nq
                      have h5 := hSW.cell m5 nq
                      have h6 := hSW.cell m6 nq
                      go_simp
                      try with_reducible rfl
                    try simp only [Act.put, List.setIfInBounds_toArray, List.set_cons_zero, List.set_cons_succ]
                    refine wpAnyH_done (by kernel_rfl) ?_ _
                    go_wp2
                    refine bodyPost_ret (results_ib2 rfl _ w.heap.size _ ⟨z, a, b, cc, xv⟩ _ rfl rfl HP1.out) rfl ?_
                    exact ⟨inP_none _ Hno.out, HP2.out⟩
                  | true =>
                    obtain ⟨hxw, hans⟩ := Hans.out.2 rfl
                    have hright := fun W => rright_any ⟨z, a, b, cc, xv⟩ W hxw
                    obtain ⟨R, HR⟩ : ∃ R, Hid (okI ⟨z, a, b, cc, xv⟩ = R) := ⟨_, rfl⟩
                    rw [HR.out] at hans hright
                    have HA2 := hide hans
                    unfold In.val at hright
                    try dsimp only at hright
                    have Hright := hide hright
                    clear hans hright hxw hM
                    go_upto_region 25 with fail
                    refine wp_region_held_drew (S := fun W' => Kp (only w.heap.size) W5 W') (by kernel_rfl) (Kp.drew (only w.heap.size) _) (fun hHeld => ?_)
                    refine take_at14 (i := 0) (d := 106) (v := ?_) rfl rfl (by kernel_rfl) (by kernel_rfl) (by kernel_rfl) (fun _ _ _ h => h) (Or.inl ⟨by rfl, ?_⟩) (by assumption) ?_
                    rotate_left
                    · intro W hSW
                      try dsimp only at hSW
                      have h0 := hSW.cell m0 nq
                      have h1 := hSW.cell m1 nq
                      have h2 := hSW.cell m2 nq
                      have h3 := hSW.cell m3 nq
                      have h4 := hSW.cell m4 nq
                      have h5 := hSW.cell m5 nq
                      have h6 := hSW.cell m6 nq
                      go_simp
                      try with_reducible rfl
                    try simp only [Act.put, List.setIfInBounds_toArray, List.set_cons_zero, List.set_cons_succ]
                    refine take_at14 (i := 1) (d := 107) (v := ?_) rfl rfl (by kernel_rfl) (by kernel_rfl) (by kernel_rfl) (fun _ _ _ h => h) (Or.inl ⟨by rfl, ?_⟩) (by assumption) ?_
                    rotate_left
                    · intro W hSW
                      try dsimp only at hSW
                      have h0 := hSW.cell m0 nq
                      have h1 := hSW.cell m1 nq
                      have h2 := hSW.cell m2 nq
                      have h3 := hSW.cell m3 nq
                      have h4 := hSW.cell m4 nq
                      have h5 := hSW.cell m5 nq
                      have h6 := hSW.cell m6 nq
                      go_simp
                      try with_reducible rfl
                    try simp only [Act.put, List.setIfInBounds_toArray, List.set_cons_zero, List.set_cons_succ]
                    refine take_at14 (i := 2) (d := 108) (v := ?_) rfl rfl (by kernel_rfl) (by kernel_rfl) (by kernel_rfl) (fun _ _ _ h => h) (Or.inl ⟨by rfl, ?_⟩) (by assumption) ?_
                    rotate_left
                    · intro W hSW
                      try dsimp only at hSW
                      have h0 := hSW.cell m0 nq
                      have h1 := hSW.cell m1 nq
                      have h2 := hSW.cell m2 nq
                      have h3 := hSW.cell m3 nq
                      have h4 := hSW.cell m4 nq
                      have h5 := hSW.cell m5 nq
                      have h6 := hSW.cell m6 nq
                      go_simp
                      try with_reducible rfl
                    try simp only [Act.put, List.setIfInBounds_toArray, List.set_cons_zero, List.set_cons_succ]
                    refine take_at14 (i := 3) (d := 109) (v := ?_) rfl rfl (by kernel_rfl) (by kernel_rfl) (by kernel_rfl) (fun _ _ _ h => h) (Or.inl ⟨by rfl, ?_⟩) (by assumption) ?_
                    rotate_left
                    · intro W hSW
                      try dsimp only at hSW
                      have h0 := hSW.cell m0 nq
                      have h1 := hSW.cell m1 nq
                      have h2 := hSW.cell m2 nq
                      have h3 := hSW.cell m3 nq
                      have h4 := hSW.cell m4 nq
                      have h5 := hSW.cell m5 nq
                      have h6 := hSW.cell m6 nq
                      go_simp
                      try with_reducible rfl
                    try simp only [Act.put, List.setIfInBounds_toArray, List.set_cons_zero, List.set_cons_succ]
                    refine wpAnyH_ready (rs := [4]) (by kernel_rfl) (by simp) ?_
                    refine AllReadyH.cons rfl (fun K hK => ?_) ?_
                    · go_simp
                      go_wp2_with (go_at_call 33; refine (Hright.out _).mono ?_; rintro e w7 ⟨rfl, hg7⟩)
                      refine hK.out _ _ ((Kp.drew (only w.heap.size) _).then (Kp.ofN hg7 _)) (fun hHeld => ?_)
                      clear hK K
                      try simp only [Act.put, List.setIfInBounds_toArray, List.set_cons_zero, List.set_cons_succ]
                      have hB7 := hBd.kept hg7 (by simp)
                      obtain ⟨d0, d1, d2, d3, d4, d5, d6⟩ := hB7.cs
                      have f0 := hB7.fz 0; have f1 := hB7.fz 1; have f2 := hB7.fz 2; have f3 := hB7.fz 3; have f4 := hB7.fz 4; have f5 := hB7.fz 5; have f6 := hB7.fz 6
                      try dsimp only at d0 d1 d2 d3 d4 d5 d6
                      have hP := hB7.put7 ⟨z, a, b, cc, xv⟩
                      refine take_at14 (i := 5) (d := 111) (v := ?_) rfl rfl (by kernel_rfl) (by kernel_rfl) (by kernel_rfl) (fun _ _ _ h => h) (Or.inl ⟨by rfl, ?_⟩) (by assumption) ?_
                      rotate_left
                      · intro W hSW
                        try dsimp only at hSW
                        have h0 := hSW.cell m0 nq
                        have h1 := hSW.cell m1 nq
                        have h2 := hSW.cell m2 nq
                        have h3 := hSW.cell m3 nq
                        have h4 := hSW.cell m4 nq
                        have h5 := hSW.cell m5 nq
                        have h6 := hSW.cell m6 nq
                        go_simp
                        try with_reducible rfl
                      try simp only [Act.put, List.setIfInBounds_toArray, List.set_cons_zero, List.set_cons_succ]
                      refine wpAnyH_ready (rs := [6]) (by kernel_rfl) (by simp) ?_
                      refine AllReadyH.cons rfl (fun K hK => ?_) ?_
                      · go_simp
                        refine hK.out _ _ (((Kp.drew (only w.heap.size) _).then (Kp.ofN hg7 _)).then (kp_put7 w7 w.heap.size ⟨z, a, b, cc, xv⟩ rfl)) (fun hHeld => ?_)
                        clear hK K
                        try simp only [Act.put, List.setIfInBounds_toArray, List.set_cons_zero, List.set_cons_succ]
                        refine take_at14 (i := 7) (d := 3) (v := ?_) rfl rfl (by kernel_rfl) (by kernel_rfl) (by kernel_rfl) (fun _ _ _ h => h) (Or.inl ⟨by rfl, ?_⟩) (by assumption) ?_
                        rotate_left
                        · intro W hSW
                          try dsimp only at hSW
                          have h0 := hSW.cell m0 nq
                          have h1 := hSW.cell m1 nq
                          have h2 := hSW.cell m2 nq
                          have h3 := hSW.cell m3 nq
                          have h4 := hSW.cell m4 nq
                          have h5 := hSW.cell m5 nq
                          have h6 := hSW.cell m6 nq
                          go_simp
                          try with_reducible rfl
                        try simp only [Act.put, List.setIfInBounds_toArray, List.set_cons_zero, List.set_cons_succ]
                        refine wpAnyH_done (by kernel_rfl) ?_ _
                        go_wp2
                        refine bodyPost_ret (results_ib2 rfl _ w.heap.size _ ⟨z, a, b, cc, xv⟩ _ rfl rfl hP.1) rfl ?_
                        exact ⟨HA2.out, grown_new (grown_up hgd hg7) hP.2 (fun j e => by cases e; exact Nat.le_refl _)⟩
                      exact AllReadyH.nil
                    exact AllReadyH.nil
          · have hz1 : (z == 1) = false := by simp [e1]
            have hne : ((N : Int) != 1 + (nn : Int)) = false := by
              rw [bne_eq_false_iff_eq]
              rw [if_neg e1] at hNw
              omega
            have Hv0 : Hid (ValR z ws true ⟨0, 0, ⟨#[]⟩⟩) := by
              refine ⟨by unfold valIs; rw [if_neg e1], fun _ => by unfold valAt; rw [if_neg e1]; rfl⟩
            clear e1 hNw
            go_wp2_with (go_at_call 30; refine (Hopd.out _).mono ?_; rintro e w3 ⟨rfl, hw3⟩; have hw3 := hw3.symm; subst hw3)
            generalize W2.alloc (.cells #[.int .i64 0, .int .i64 0, .int .i64 0] 3) = W3 at *
            generalize W2.heap.size = p at *
            go_loopw [7, 10] (fun o i wr' => ∃ (k2 : Nat) (a b cc : Int) (ob : Bool), k2 ≤ nn ∧ i = .int .i64 (k2 : Int) ∧ o = .bool ob ∧ Ac wr' p a b cc ∧ Ib wr' w.heap.size ⟨0, 0, 0, 0, ⟨0, 0, ⟨#[]⟩⟩⟩ ∧ w.grownBy wr' none ∧ Hid (OkS ws k2 ob a b cc)) (fun _ i _ => nn - (intOf i).toNat)
            case atStart => exact ⟨0, 0, 0, 0, true, by omega, rfl, rfl, hA0, hB0, hg3, OkS.zero ws⟩
            case round =>
              clear hA0 hB0 hg3
              obtain ⟨k2, a, b, cc, ob, hk2, rfl, rfl, hA, hB, hgr, HO⟩ := hrel
              by_cases hlt : k2 < nn
              · have hmN : 1 + (k2 : Int) < (N : Int) := by omega
                have k3 : k2 < 3 := by omega
                have k3' : (k2 : Int) < 3 := by omega
                have hcm : wr.cell? ⟨q, off + (1 + k2), none⟩ = some (.string (mkB (ws.getD (1 + k2) []))) := Hwc.out _ (1 + k2) hgr (by rw [HN.out]; omega)
                have Hnum : Hid (∀ W, Calls Tryz.prog 31 #[.string (mkB (ws.getD (1 + k2) []))] W fun e w' => NumP (numW (ws.getD (k2 + 1) [])) e ∧ w' = W) := by
                  intro W
                  have h := rnumber_any (mkB (ws.getD (1 + k2) [])) W (by
                    rw [mkB_size]
                    have h2 : 1 + k2 < ws.length := by rw [HN.out]; omega
                    have := Hsw.out _ (List.getElem_mem h2)
                    rw [List.getD_eq_getElem?_getD, List.getElem?_eq_getElem h2]
                    show _ ≤ maxLen
                    unfold maxLen
                    show ws[1 + k2].length ≤ _
                    omega)
                  rw [mkB_list, Nat.add_comm 1 k2] at h
                  rw [Nat.add_comm 1 k2]
                  exact h
                generalize mkB (ws.getD (1 + k2) []) = Y at *
                have hP := fun v => hA.put k2 k3 v
                obtain ⟨u, hu⟩ := (hP 0).2.2
                have hf := hA.fz k2
                have HPw := hide (fun v => grown_new hgr (hP v).2.1 (fun j e => by cases e; omega))
                have HPb := hide (fun v => hB.kept (hP v).2.1 (by simp; omega))
                have HPa := hide (fun v => (hP v).1)
                clear hP hk2
                go_upto_region 18 with (go_at_call 31; refine (Hnum.out _).mono ?_; rintro e w3 ⟨⟨z0, bb, rfl, hz⟩, rfl⟩; have Hz0 := hide hz; clear hz)
                cases ob with
                | false =>
                  have Hnew := hide (HO.out.step k3 Hz0.out false rfl)
                  go_wp2_with fail
                  go_roundw
                  case rel => exact ⟨k2 + 1, _, _, _, _, by omega, by go_num, rfl, HPa.out z0, HPb.out z0, HPw.out z0, Hnew⟩
                  case measure => simp [intOf]; omega
                | true =>
                  cases bb with
                  | false =>
                    have Hnew := hide (HO.out.step k3 Hz0.out false rfl)
                    go_wp2_with fail
                    go_roundw
                    case rel => exact ⟨k2 + 1, _, _, _, _, by omega, by go_num, rfl, HPa.out z0, HPb.out z0, HPw.out z0, Hnew⟩
                    case measure => simp [intOf]; omega
                  | true =>
                    by_cases g0 : 0 ≤ z0
                    · by_cases g1 : z0 ≤ 255
                      · have Hnew := hide (HO.out.step k3 Hz0.out true (by rw [decide_eq_true ⟨g0, g1⟩]; rfl))
                        go_wp2_with fail
                        go_roundw
                        case rel => exact ⟨k2 + 1, _, _, _, _, by omega, by go_num, rfl, HPa.out z0, HPb.out z0, HPw.out z0, Hnew⟩
                        case measure => simp [intOf]; omega
                      · have Hnew := hide (HO.out.step k3 Hz0.out false (by rw [decide_eq_false (fun h => g1 h.2)]; rfl))
                        have g1' : decide (z0 ≤ 255) = false := decide_eq_false g1
                        go_wp2_with fail
                        go_roundw
                        case rel => exact ⟨k2 + 1, _, _, _, _, by omega, by go_num, rfl, HPa.out z0, HPb.out z0, HPw.out z0, Hnew⟩
                        case measure => simp [intOf]; omega
                    · have Hnew := hide (HO.out.step k3 Hz0.out false (by rw [decide_eq_false (fun h => g0 h.1)]; rfl))
                      have g0' : decide (0 ≤ z0) = false := decide_eq_false g0
                      go_wp2_with fail
                      go_roundw
                      case rel => exact ⟨k2 + 1, _, _, _, _, by omega, by go_num, rfl, HPa.out z0, HPb.out z0, HPw.out z0, Hnew⟩
                      case measure => simp [intOf]; omega
              · have hOn : Hid (OkS ws nn ob a b cc) := by have e : k2 = nn := by omega
                                                           show OkS _ _ _ _ _ _
                                                           rw [← e]; exact HO.out
                clear HO hk2
                obtain ⟨o0, o1, o2⟩ := hA.cs
                obtain ⟨p0, p1, p2⟩ := (hA.kept (World.grownBy_alloc wr (.cells #[.int .i64 0, .int .i64 0, .int .i64 0, .int .i64 0, .int .i64 0, .int .i64 0, .string ⟨#[]⟩] 35) none) (by simp)).cs
                go_upto_region 20 with fail
                go_region
                all_goals go_upto_region 21 with fail
                have hM0 : Ib (wr.alloc (.cells #[.int .i64 z, .int .i64 a, .int .i64 b, .int .i64 cc, .int .i64 0, .int .i64 0, .string ⟨#[]⟩] 35)).drew wr.heap.size ⟨z, a, b, cc, ⟨0, 0, ⟨#[]⟩⟩⟩ := Ib.new wr ⟨z, a, b, cc, ⟨0, 0, ⟨#[]⟩⟩⟩
                have hB50 := (hB.kept (World.grownBy_alloc wr (.cells #[.int .i64 z, .int .i64 a, .int .i64 b, .int .i64 cc, .int .i64 0, .int .i64 0, .string ⟨#[]⟩] 35) none) (by simp)).kept (grown_drew _) (by simp)
                have hg50 := grown_up (grown_up hgr (World.grownBy_alloc wr (.cells #[.int .i64 z, .int .i64 a, .int .i64 b, .int .i64 cc, .int .i64 0, .int .i64 0, .string ⟨#[]⟩] 35) none)) (grown_drew _)
                generalize (wr.alloc (.cells #[.int .i64 z, .int .i64 a, .int .i64 b, .int .i64 cc, .int .i64 0, .int .i64 0, .string ⟨#[]⟩] 35)).drew = W5 at *
                have hM := hM0
                have hB5 := hB50
                have hg5 := hg50
                have Hans := hide (Hin.out a b cc ⟨0, 0, ⟨#[]⟩⟩ ob true hOn.out Hv0.out)
                rw [Bool.and_true] at Hans
                clear hM0 hB50 hg50
                generalize ob = okf at *
                obtain ⟨g1, hg1e⟩ : ∃ g1, wr.heap.size = g1 := ⟨_, rfl⟩
                rw [hg1e] at hM ⊢
                have hne1 : g1 ≠ w.heap.size := by rw [← hg1e]; have := hB.lt; omega
                have hgm : w.heap.size < W5.heap.size := hB5.lt
                have nq : ¬ only w.heap.size g1 := fun e => hne1 e
                have hBd := hB5.kept (grown_drew W5) (by simp)
                have hgd := grown_up hg5 (grown_drew W5)
                have HMs := hide hM
                obtain ⟨m0, m1, m2, m3, m4, m5, m6⟩ := hM.cs
                try dsimp only at m0 m1 m2 m3 m4 m5 m6
                cases okf with
                | false =>
                  have Hno := hide (Hans.out.1 rfl)
                  obtain ⟨d0, d1, d2, d3, d4, d5, d6⟩ := hB5.cs
                  have f0 := hB5.fz 0; have f1 := hB5.fz 1; have f2 := hB5.fz 2; have f3 := hB5.fz 3; have f4 := hB5.fz 4; have f5 := hB5.fz 5; have f6 := hB5.fz 6
                  try dsimp only at d0 d1 d2 d3 d4 d5 d6
                  have hP := hB5.put7 ⟨z, a, b, cc, ⟨0, 0, ⟨#[]⟩⟩⟩
                  have HP1 : Hid (Ib (put7 W5 w.heap.size ⟨z, a, b, cc, ⟨0, 0, ⟨#[]⟩⟩⟩).drew w.heap.size ⟨z, a, b, cc, ⟨0, 0, ⟨#[]⟩⟩⟩) := hP.1.kept (grown_drew _) (by simp)
                  have HP2 := hide (grown_up (grown_new hg5 hP.2 (fun j e => by cases e; exact Nat.le_refl _)) (grown_drew _))
                  clear hP hM hB5 hBd hg5 hgd
                  go_upto_region 25 with fail
                  refine wp_region_held_drew (S := fun W' => Kp (only w.heap.size) W5 W') (by kernel_rfl) (Kp.drew (only w.heap.size) _) (fun hHeld => ?_)
                  refine take_at14 (i := 0) (d := 106) (v := ?_) rfl rfl (by kernel_rfl) (by kernel_rfl) (by kernel_rfl) (fun _ _ _ h => h) (Or.inl ⟨by rfl, ?_⟩) (by assumption) ?_
                  rotate_left
                  · intro W hSW
                    try dsimp only at hSW
                    have h0 := hSW.cell m0 nq
                    have h1 := hSW.cell m1 nq
                    have h2 := hSW.cell m2 nq
                    have h3 := hSW.cell m3 nq
                    have h4 := hSW.cell m4 nq
                    have h5 := hSW.cell m5 nq
                    have h6 := hSW.cell m6 nq
                    go_simp
                    try with_reducible rfl
                  try simp only [Act.put, List.setIfInBounds_toArray, List.set_cons_zero, List.set_cons_succ]
                  refine take_at14 (i := 1) (d := 107) (v := ?_) rfl rfl (by kernel_rfl) (by kernel_rfl) (by kernel_rfl) (fun _ _ _ h => h) (Or.inl ⟨by rfl, ?_⟩) (by assumption) ?_
                  rotate_left
                  · intro W hSW
                    try dsimp only at hSW
                    have h0 := hSW.cell m0 nq
                    have h1 := hSW.cell m1 nq
                    have h2 := hSW.cell m2 nq
                    have h3 := hSW.cell m3 nq
                    have h4 := hSW.cell m4 nq
                    have h5 := hSW.cell m5 nq
                    have h6 := hSW.cell m6 nq
                    go_simp
                    try with_reducible rfl
                  try simp only [Act.put, List.setIfInBounds_toArray, List.set_cons_zero, List.set_cons_succ]
                  refine take_at14 (i := 2) (d := 108) (v := ?_) rfl rfl (by kernel_rfl) (by kernel_rfl) (by kernel_rfl) (fun _ _ _ h => h) (Or.inl ⟨by rfl, ?_⟩) (by assumption) ?_
                  rotate_left
                  · intro W hSW
                    try dsimp only at hSW
                    have h0 := hSW.cell m0 nq
                    have h1 := hSW.cell m1 nq
                    have h2 := hSW.cell m2 nq
                    have h3 := hSW.cell m3 nq
                    have h4 := hSW.cell m4 nq
                    have h5 := hSW.cell m5 nq
                    have h6 := hSW.cell m6 nq
                    go_simp
                    try with_reducible rfl
                  try simp only [Act.put, List.setIfInBounds_toArray, List.set_cons_zero, List.set_cons_succ]
                  refine take_at14 (i := 3) (d := 109) (v := undef) rfl rfl (by kernel_rfl) (by kernel_rfl) (by kernel_rfl) (fun _ _ _ h => h) (Or.inr ⟨by rfl, rfl⟩) (by assumption) ?_
                  try simp only [Act.put, List.setIfInBounds_toArray, List.set_cons_zero, List.set_cons_succ]
                  refine take_at14 (i := 4) (d := 110) (v := undef) rfl rfl (by kernel_rfl) (by kernel_rfl) (by kernel_rfl) (fun _ _ _ h => h) (Or.inr ⟨by rfl, rfl⟩) (by assumption) ?_
                  try simp only [Act.put, List.setIfInBounds_toArray, List.set_cons_zero, List.set_cons_succ]
                  refine take_at14 (i := 5) (d := 111) (v := ?_) rfl rfl (by kernel_rfl) (by kernel_rfl) (by kernel_rfl) (fun _ _ _ h => h) (Or.inl ⟨by rfl, ?_⟩) (by assumption) ?_
                  rotate_left
                  · intro W hSW
                    try dsimp only at hSW
                    have h0 := hSW.cell m0 nq
                    have h1 := hSW.cell m1 nq
                    have h2 := hSW.cell m2 nq
                    have h3 := hSW.cell m3 nq
                    have h4 := hSW.cell m4 nq
                    have h5 := hSW.cell m5 nq
                    have h6 := hSW.cell m6 nq
                    go_simp
                    try with_reducible rfl
                  try simp only [Act.put, List.setIfInBounds_toArray, List.set_cons_zero, List.set_cons_succ]
                  refine wpAnyH_ready (rs := [6]) (by kernel_rfl) (by simp) ?_
                  refine AllReadyH.cons rfl (fun K hK => ?_) AllReadyH.nil
                  go_simp
                  refine hK.out _ _ ((kp_put7 (S := only w.heap.size) W5 w.heap.size ⟨z, a, b, cc, ⟨0, 0, ⟨#[]⟩⟩⟩ rfl).then (Kp.drew (only w.heap.size) _)) (fun hHeld => ?_)
                  clear hK K
                  try simp only [Act.put, List.setIfInBounds_toArray, List.set_cons_zero, List.set_cons_succ]
                  refine take_at14 (i := 7) (d := 3) (v := ?_) rfl rfl (by kernel_rfl) (by kernel_rfl) (by kernel_rfl) (fun _ _ _ h => h) (Or.inl ⟨by rfl, ?_⟩) (by assumption) ?_
                  rotate_left
                  · intro W hSW
                    try dsimp only at hSW
                    have h0 := hSW.cell m0 nq
                    have h1 := hSW.cell m1 nq
                    have h2 := hSW.cell m2 nq
                    have h3 := hSW.cell m3 nq
                    have h4 := hSW.cell m4 nq
                    have h5 := hSW.cell m5 nq
                    have h6 := hSW.cell m6 nq
                    go_simp
                    try with_reducible rfl
                  try simp only [Act.put, List.setIfInBounds_toArray, List.set_cons_zero, List.set_cons_succ]
                  refine wpAnyH_done (by kernel_rfl) ?_ _
                  go_wp2
                  refine bodyPost_ret (results_ib2 rfl _ w.heap.size _ ⟨z, a, b, cc, ⟨0, 0, ⟨#[]⟩⟩⟩ _ rfl rfl HP1.out) rfl ?_
                  exact ⟨inP_none _ Hno.out, HP2.out⟩
                | true =>
                  obtain ⟨hxw, hans⟩ := Hans.out.2 rfl
                  have hright := fun W => rright_any ⟨z, a, b, cc, ⟨0, 0, ⟨#[]⟩⟩⟩ W hxw
                  obtain ⟨R, HR⟩ : ∃ R, Hid (okI ⟨z, a, b, cc, ⟨0, 0, ⟨#[]⟩⟩⟩ = R) := ⟨_, rfl⟩
                  rw [HR.out] at hans hright
                  have HA2 := hide hans
                  unfold In.val at hright
                  try dsimp only at hright
                  have Hright := hide hright
                  clear hans hright hxw hM
                  go_upto_region 25 with fail
                  refine wp_region_held_drew (S := fun W' => Kp (only w.heap.size) W5 W') (by kernel_rfl) (Kp.drew (only w.heap.size) _) (fun hHeld => ?_)
                  refine take_at14 (i := 0) (d := 106) (v := ?_) rfl rfl (by kernel_rfl) (by kernel_rfl) (by kernel_rfl) (fun _ _ _ h => h) (Or.inl ⟨by rfl, ?_⟩) (by assumption) ?_
                  rotate_left
                  · intro W hSW
                    try dsimp only at hSW
                    have h0 := hSW.cell m0 nq
                    have h1 := hSW.cell m1 nq
                    have h2 := hSW.cell m2 nq
                    have h3 := hSW.cell m3 nq
                    have h4 := hSW.cell m4 nq
                    have h5 := hSW.cell m5 nq
                    have h6 := hSW.cell m6 nq
                    go_simp
                    try with_reducible rfl
                  try simp only [Act.put, List.setIfInBounds_toArray, List.set_cons_zero, List.set_cons_succ]
                  refine take_at14 (i := 1) (d := 107) (v := ?_) rfl rfl (by kernel_rfl) (by kernel_rfl) (by kernel_rfl) (fun _ _ _ h => h) (Or.inl ⟨by rfl, ?_⟩) (by assumption) ?_
                  rotate_left
                  · intro W hSW
                    try dsimp only at hSW
                    have h0 := hSW.cell m0 nq
                    have h1 := hSW.cell m1 nq
                    have h2 := hSW.cell m2 nq
                    have h3 := hSW.cell m3 nq
                    have h4 := hSW.cell m4 nq
                    have h5 := hSW.cell m5 nq
                    have h6 := hSW.cell m6 nq
                    go_simp
                    try with_reducible rfl
                  try simp only [Act.put, List.setIfInBounds_toArray, List.set_cons_zero, List.set_cons_succ]
                  refine take_at14 (i := 2) (d := 108) (v := ?_) rfl rfl (by kernel_rfl) (by kernel_rfl) (by kernel_rfl) (fun _ _ _ h => h) (Or.inl ⟨by rfl, ?_⟩) (by assumption) ?_
                  rotate_left
                  · intro W hSW
                    try dsimp only at hSW
                    have h0 := hSW.cell m0 nq
                    have h1 := hSW.cell m1 nq
                    have h2 := hSW.cell m2 nq
                    have h3 := hSW.cell m3 nq
                    have h4 := hSW.cell m4 nq
                    have h5 := hSW.cell m5 nq
                    have h6 := hSW.cell m6 nq
                    go_simp
                    try with_reducible rfl
                  try simp only [Act.put, List.setIfInBounds_toArray, List.set_cons_zero, List.set_cons_succ]
                  refine take_at14 (i := 3) (d := 109) (v := ?_) rfl rfl (by kernel_rfl) (by kernel_rfl) (by kernel_rfl) (fun _ _ _ h => h) (Or.inl ⟨by rfl, ?_⟩) (by assumption) ?_
                  rotate_left
                  · intro W hSW
                    try dsimp only at hSW
                    have h0 := hSW.cell m0 nq
                    have h1 := hSW.cell m1 nq
                    have h2 := hSW.cell m2 nq
                    have h3 := hSW.cell m3 nq
                    have h4 := hSW.cell m4 nq
                    have h5 := hSW.cell m5 nq
                    have h6 := hSW.cell m6 nq
                    go_simp
                    try with_reducible rfl
                  try simp only [Act.put, List.setIfInBounds_toArray, List.set_cons_zero, List.set_cons_succ]
                  refine wpAnyH_ready (rs := [4]) (by kernel_rfl) (by simp) ?_
                  refine AllReadyH.cons rfl (fun K hK => ?_) ?_
                  · go_simp
                    go_wp2_with (go_at_call 33; refine (Hright.out _).mono ?_; rintro e w7 ⟨rfl, hg7⟩)
                    refine hK.out _ _ ((Kp.drew (only w.heap.size) _).then (Kp.ofN hg7 _)) (fun hHeld => ?_)
                    clear hK K
                    try simp only [Act.put, List.setIfInBounds_toArray, List.set_cons_zero, List.set_cons_succ]
                    have hB7 := hBd.kept hg7 (by simp)
                    obtain ⟨d0, d1, d2, d3, d4, d5, d6⟩ := hB7.cs
                    have f0 := hB7.fz 0; have f1 := hB7.fz 1; have f2 := hB7.fz 2; have f3 := hB7.fz 3; have f4 := hB7.fz 4; have f5 := hB7.fz 5; have f6 := hB7.fz 6
                    try dsimp only at d0 d1 d2 d3 d4 d5 d6
                    have hP := hB7.put7 ⟨z, a, b, cc, ⟨0, 0, ⟨#[]⟩⟩⟩
                    refine take_at14 (i := 5) (d := 111) (v := ?_) rfl rfl (by kernel_rfl) (by kernel_rfl) (by kernel_rfl) (fun _ _ _ h => h) (Or.inl ⟨by rfl, ?_⟩) (by assumption) ?_
                    rotate_left
                    · intro W hSW
                      try dsimp only at hSW
                      have h0 := hSW.cell m0 nq
                      have h1 := hSW.cell m1 nq
                      have h2 := hSW.cell m2 nq
                      have h3 := hSW.cell m3 nq
                      have h4 := hSW.cell m4 nq
                      have h5 := hSW.cell m5 nq
                      have h6 := hSW.cell m6 nq
                      go_simp
                      try with_reducible rfl
                    try simp only [Act.put, List.setIfInBounds_toArray, List.set_cons_zero, List.set_cons_succ]
                    refine wpAnyH_ready (rs := [6]) (by kernel_rfl) (by simp) ?_
                    refine AllReadyH.cons rfl (fun K hK => ?_) ?_
                    · go_simp
                      refine hK.out _ _ (((Kp.drew (only w.heap.size) _).then (Kp.ofN hg7 _)).then (kp_put7 w7 w.heap.size ⟨z, a, b, cc, ⟨0, 0, ⟨#[]⟩⟩⟩ rfl)) (fun hHeld => ?_)
                      clear hK K
                      try simp only [Act.put, List.setIfInBounds_toArray, List.set_cons_zero, List.set_cons_succ]
                      refine take_at14 (i := 7) (d := 3) (v := ?_) rfl rfl (by kernel_rfl) (by kernel_rfl) (by kernel_rfl) (fun _ _ _ h => h) (Or.inl ⟨by rfl, ?_⟩) (by assumption) ?_
                      rotate_left
                      · intro W hSW
                        try dsimp only at hSW
                        have h0 := hSW.cell m0 nq
                        have h1 := hSW.cell m1 nq
                        have h2 := hSW.cell m2 nq
                        have h3 := hSW.cell m3 nq
                        have h4 := hSW.cell m4 nq
                        have h5 := hSW.cell m5 nq
                        have h6 := hSW.cell m6 nq
                        go_simp
                        try with_reducible rfl
                      try simp only [Act.put, List.setIfInBounds_toArray, List.set_cons_zero, List.set_cons_succ]
                      refine wpAnyH_done (by kernel_rfl) ?_ _
                      go_wp2
                      refine bodyPost_ret (results_ib2 rfl _ w.heap.size _ ⟨z, a, b, cc, ⟨0, 0, ⟨#[]⟩⟩⟩ _ rfl rfl hP.1) rfl ?_
                      exact ⟨HA2.out, grown_new (grown_up hgd hg7) hP.2 (fun j e => by cases e; exact Nat.le_refl _)⟩
                    exact AllReadyH.nil
                  exact AllReadyH.nil
        · have Hno : Hid (instU ws = none) := Hbad.out (fun h => hm h.2)
          have hmN : N ≠ wantW z := by rw [← HN.out]; exact hm
          by_cases e1 : z = 1
          · have hz1 : (z == 1) = true := by simp [e1]
            have hne : ((N : Int) != 1 + (nn : Int) + 1) = true := by
              rw [bne_iff_ne]
              have := Hwant.out
              rw [if_pos e1] at this
              omega
            clear e1 hm hmN
            go_wp2_with (go_at_call 30; refine (Hopd.out _).mono ?_; rintro e w3 ⟨rfl, rfl⟩)
            refine bodyPost_ret (results_ib2 rfl _ w.heap.size _ zI _ rfl rfl HP1.out) rfl ?_
            exact ⟨inP_none _ Hno.out, HP2.out⟩
          · have hz1 : (z == 1) = false := by simp [e1]
            have hne : ((N : Int) != 1 + (nn : Int)) = true := by
              rw [bne_iff_ne]
              have := Hwant.out
              rw [if_neg e1] at this
              omega
            clear e1 hm hmN
            go_wp2_with (go_at_call 30; refine (Hopd.out _).mono ?_; rintro e w3 ⟨rfl, rfl⟩)
            refine bodyPost_ret (results_ib2 rfl _ w.heap.size _ zI _ rfl rfl HP1.out) rfl ?_
            exact ⟨inP_none _ Hno.out, HP2.out⟩

end Go.Proofs.YthopmlgfklhagaaGreatDoor
