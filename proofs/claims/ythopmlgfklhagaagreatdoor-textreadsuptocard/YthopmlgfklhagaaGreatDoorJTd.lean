/- Contract, over the turned program: the words of an instruction that may be. Conditions: those that the theorem states. -/
import Derived.Test.YthopmlgfklhagaaGreatDoorJTc
import Derived.Test.YthopmlgfklhagaaGreatDoorJWd
namespace Go.Proofs.YthopmlgfklhagaaGreatDoor
open Go.RowKit
set_option linter.unusedVariables false

theorem infoStrJ : (Tryz.prog.info? 9).map (fun i => (i.zero, i.size, i.bytes)) = some (some (.string ByteArray.empty), 1, 16) := by kernel_rfl
/-- One text appended, out of a new block. -/
theorem app_str (w : World) (base : Nat) (v : Value) (l : List ByteArray) (X : ByteArray) (hO : Ow Value.string 9 w base v l) (hb : base ≤ w.heap.size) (hl : l.length ≤ 1000) :
    ∃ v' w', (Builtin.append_ #[40, 40] 40 #[v, .slice (some ⟨w.heap.size, 0, none⟩) 1 1]).run Tryz.prog (w.alloc (.cells #[.string X] 9)) = .ok v' w' ∧ Ow Value.string 9 w' base v' (l ++ [X]) ∧ w.grownBy w' v.ownBlock ∧ (v'.ownBlock = v.ownBlock ∨ ∃ g, v'.ownBlock = some g ∧ w.heap.size ≤ g) := by
  obtain ⟨v', w', h1, h2, h3, h4⟩ := iapp_row 40 9 40 _ 1 16 Tryz.underlying40 infoStrJ rfl (by omega) (w.alloc (.cells #[.string X] 9)) base v _ _ _ 1 [.string X] (World.ownsRow.alloc hO _) (src_cell w 40 9 Tryz.underlying40 (.string X) rfl w.heap.size rfl) (by simp; omega) (by omega)
  refine ⟨v', w', h1, ?_, grown_trans (World.grownBy_alloc w _ _) h3 (.inl rfl), ?_⟩
  · unfold Ow
    rw [List.length_append, List.map_append]
    exact h2
  · rcases h4 with h4 | h4
    · exact .inl h4
    · exact .inr ⟨_, h4, by simp⟩
theorem grown_row {w w' : World} (h : w.grownBy w' none) (row : Option Nat) : w.grownBy w' row := ⟨h.os, h.tape, h.output, h.size, fun k hk _ => h.block k hk (by simp)⟩
theorem ow_lit (w : World) (X : ByteArray) : Ow Value.string 9 (w.alloc (.cells #[.string X] 9)) w.heap.size (.slice (some ⟨w.heap.size, 0, none⟩) 1 1) [X] := by
  have h := World.ownsRow_lit (base := w.heap.size) (e := 9) (size := 1) w #[.string X] 1 (Nat.le_refl _) (by unfold maxLen; omega) (by simp)
  simpa [Ow] using h
theorem Ow.monoB {α : Type} {f : α → Value} {e : TypeId} {w : World} {base base' : Nat} {v : Value} {l : List α} (h : Ow f e w base v l) (hb : base' ≤ base) : Ow f e w base' v l := Joins.ownsRow_le h hb
theorem ow_at {w : World} {base : Nat} {v : Value} {l m : List ByteArray} (h : Ow Value.string 9 w base v l) (e : l = m) : Ow Value.string 9 w base v m := e ▸ h
theorem okC_parts {x : V} (h : okC x = true) : okV x = true ∧ x.s.size ≤ 10 := by
  unfold okC at h
  rw [Bool.and_eq_true] at h
  exact ⟨h.1, of_decide_eq_true h.2⟩
theorem spellValue_any (x : V) (w : World) (hx : x.wf) (hk : okC x = true) (hG : G14 w) :
    Calls Tryz.prog 40 #[x.val] w fun e w' => e = .returned (.string (mkB (valW x))) ∧ w.grownBy w' none := by
  obtain ⟨k1, k2⟩ := okC_parts hk
  obtain ⟨k, n, s⟩ := x
  rcases (okV_iff _).1 k1 with ⟨h1, h2⟩ | ⟨h1, h2⟩
  · dsimp only at h1 h2
    subst h1
    have e : valW ⟨1, n, s⟩ = Lib.itoa n := rfl
    rw [e]
    exact spellValue_int n s w hx.n0 hx.n1 hG
  · dsimp only at h1 h2 k2
    subst h1 h2
    have e : valW ⟨2, 0, s⟩ = 39 :: hexL s.data.toList := rfl
    rw [e]
    exact spellValue_text s w (by omega)
theorem opsW_step (x : In) (n k : Nat) (hk : k < 3) (h : k < n) : opsW (min (k + 1) n) x = opsW (min k n) x ++ [Lib.itoa (x.fl k)] := by
  rw [show min (k + 1) n = k + 1 by omega, show min k n = k by omega]
  rcases (by omega : k = 0 ∨ k = 1 ∨ k = 2) with rfl | rfl | rfl <;> rfl
theorem opsW_stay (x : In) (n k : Nat) (h : n ≤ k) : opsW (min (k + 1) n) x = opsW (min k n) x := by
  rw [show min (k + 1) n = n by omega, show min k n = n by omega]
theorem opsW_len (n : Nat) (x : In) : (opsW n x).length ≤ 3 := by
  unfold opsW
  rw [List.length_map, List.length_take]
  simp only [List.length_cons, List.length_nil]
  omega

set_option maxRecDepth 100000 in
set_option maxHeartbeats 1000000 in
theorem spell_any (x : In) (w : World) (hx : x.wf) (hk : okI x = true) (hG : G14 w) :
    Calls Tryz.prog 18 #[x.val] w fun e w' => ∃ v, e = .returned v ∧ Ow Value.string 9 w' w.heap.size v ((wordsI x).map mkB) ∧ w.grownBy w' none := by
  have hb1 := Ib.new w x
  have hga := World.grownBy_alloc w (.cells #[.int .i64 x.op, .int .i64 x.a, .int .i64 x.b, .int .i64 x.c, .int .i64 x.v.k, .int .i64 x.v.n, .string x.v.s] 35) none
  obtain ⟨o1, o2, o3, o4, o5⟩ := okI_parts hk
  obtain ⟨nn, HN⟩ : ∃ nn : Nat, Hid (nOps x.op = nn) := ⟨_, rfl⟩
  have hnI : nOpI x.op = (nn : Int) := by unfold nOpI; rw [o1, if_pos rfl, HN.out]
  have hn3 : nn ≤ 3 := by have := HN.out; have := nOps_le x.op; omega
  obtain ⟨Nm, HNm⟩ : ∃ X, Hid (mkB (nameB x.op) = X) := ⟨_, rfl⟩
  have hr := of_decide_eq_true o1
  have Hnm : Hid (∀ W, G14 W → Calls Tryz.prog 9 #[.int .i64 x.op] W fun e w' => e = .returned (.string Nm) ∧ w' = W) := by
    intro W hW
    rw [← HNm.out]
    exact tname_any x.op W (by omega) (by omega) hW
  have Hop : Hid (∀ W, G14 W → Calls Tryz.prog 24 #[.int .i64 x.op] W fun e w' => e = .returned (.tuple #[.int .i64 (nn : Int), .bool true]) ∧ w' = W) := by
    intro W hW
    have h := operands_any x.op W hW.op
    rw [hnI, o1] at h
    exact h
  have Hfl := hide (fit_fl x hk)
  have HE : Hid ((wordsI x).map mkB = Nm :: (opsW nn x).map mkB ++ (if x.op = 1 then [mkB (valW x.v)] else [])) := by
    show _ = _
    unfold wordsI
    rw [HN.out, ← HNm.out, List.map_cons, List.map_append]
    split <;> rfl
  have Ho5 := hide o5
  have hv := hx.1
  obtain ⟨B, HB⟩ : ∃ B, Hid (w.heap.size = B) := ⟨_, rfl⟩
  unfold In.val
  clear o1 o2 o3 o4 o5 hr hnI hk
  have hG1 := hG.keptN hga
  obtain ⟨c0, c1, c2, c3, c4, c5, c6⟩ := hb1.cs
  have hO1 := ow_lit (w.alloc (.cells #[.int .i64 x.op, .int .i64 x.a, .int .i64 x.b, .int .i64 x.c, .int .i64 x.v.k, .int .i64 x.v.n, .string x.v.s] 35)) Nm
  have hgb := World.grownBy_alloc (w.alloc (.cells #[.int .i64 x.op, .int .i64 x.a, .int .i64 x.b, .int .i64 x.c, .int .i64 x.v.k, .int .i64 x.v.n, .string x.v.s] 35)) (.cells #[.string Nm] 9) none
  have hb2 := hb1.kept hgb (by simp)
  have hG2 := hG1.keptN hgb
  have hg2 := grown_up hga hgb
  rw [World.size_alloc] at hO1
  go_enter Tryz.func18, Tryz.ntmps18
  go_wp2_with (first
    | (go_at_call 9; refine (Hnm.out _ hG1).mono ?_; rintro e w1 ⟨rfl, rfl⟩)
    | (go_at_call 24; refine (Hop.out _ hG2).mono ?_; rintro e w1 ⟨rfl, rfl⟩))
  clear c0 c1 c2 c3 c4 c5 c6 hb1 hG1 hgb hga Hnm Hop
  have HG0 := hide hG
  generalize hW0 : ((w.alloc (.cells #[.int .i64 x.op, .int .i64 x.a, .int .i64 x.b, .int .i64 x.c, .int .i64 x.v.k, .int .i64 x.v.n, .string x.v.s] 35)).alloc (.cells #[.string Nm] 9)) = W0 at *
  clear hW0
  go_loopw [3, 25] (fun b i wr => ∃ k : Nat, k ≤ 3 ∧ i = .int .i64 k ∧ Ow Value.string 9 wr (w.heap.size + 1) b (Nm :: (opsW (min k nn) x).map mkB) ∧ w.grownBy wr none ∧ Ib wr w.heap.size x) (fun _ i _ => 3 - (intOf i).toNat)
  case atStart => exact ⟨0, by omega, rfl, by simpa [opsW] using hO1, hg2, hb2⟩
  case round =>
    clear hO1 hg2 hb2 hG2
    obtain ⟨k, hk3, rfl, hO, hg, hb⟩ := hrel
    have hG := HG0.out.keptN hg
    obtain ⟨c0, c1, c2, c3, c4, c5, c6⟩ := hb.cs
    have hbs : w.heap.size + 1 ≤ wr.heap.size := by have := hb.lt; omega
    have hll : (Nm :: (opsW (min k nn) x).map mkB).length ≤ 1000 := by have := opsW_len (min k nn) x; rw [List.length_cons, List.length_map]; omega
    have Hgw : Hid (∀ W', wr.grownBy W' u3.ownBlock → w.grownBy W' none) := fun W' h => grown_trans hg h (by
      cases hu : u3.ownBlock with
      | none => exact .inl rfl
      | some q => exact .inr ⟨q, rfl, by have := (hO.lt q hu).1; omega⟩)
    have hub : some w.heap.size ≠ u3.ownBlock := fun h => by have := (hO.lt _ h.symm).1; omega
    have hlt0 := hG.lt
    by_cases hlt : k < 3
    · have hix := run_idx3 x k hlt wr
      have Hs1 := hide (opsW_step x nn k hlt)
      have Hs2 := hide (opsW_stay x nn k)
      by_cases a1 : (k : Int) < (nn : Int)
      · have Hby := of_decide_eq_true (Hfl.out k)
        have Hit := hide (ritoa_any (x.fl k) wr (by omega) (by omega) hG.t10)
        obtain ⟨X, HX⟩ : ∃ X, Hid (mkB (Lib.itoa (x.fl k)) = X) := ⟨_, hide rfl⟩
        rw [HX.out] at Hit
        clear Hby
        go_wp2_with (first
          | (go_at_call 39; refine (Hit.out).mono ?_; rintro e w3 ⟨rfl, hg3⟩; obtain ⟨v', w', hr, hO', hg', hv'⟩ := app_str w3 _ _ _ X (hO.keptN (Kp.ofN hg3 _)) (Nat.le_trans hbs hg3.size) hll)
          | (at_builtin; refine iwpList_app_at rfl (.tmp 32) (.tmp 35) 40 40 rfl _ _ rfl rfl hr ?_))
        have hg4 : wr.grownBy w' u3.ownBlock := grown_trans (grown_row hg3 _) hg' (.inl rfl)
        go_roundw
        case rel =>
          exact ⟨k + 1, by omega, by go_num, ow_at hO' (by rw [Hs1.out (by omega), List.map_append, ← HX.out]; rfl), Hgw.out _ hg4, hb.kept hg4 hub⟩
        case measure => simp [intOf]; omega
      · go_wp2_with fail
        go_roundw
        case rel => exact ⟨k + 1, by omega, by go_num, ow_at hO (by rw [Hs2.out (by omega)]), hg, hb⟩
        case measure => simp [intOf]; omega
    · have hO2 : Ow Value.string 9 wr (w.heap.size + 1) u3 (Nm :: (opsW nn x).map mkB) := ow_at hO (by rw [show min k nn = nn by omega])
      by_cases h1 : x.op = 1
      · have Hok : Hid (okC x.v = true) := by
          have := Ho5.out
          rw [if_pos h1] at this
          exact this
        have He : Hid ((if x.op = 1 then [mkB (valW x.v)] else []) = [mkB (valW x.v)]) := if_pos h1
        have h1' : (x.op == 1) = true := by simp [h1]
        have Hsv := hide (spellValue_any x.v wr hv Hok.out hG)
        obtain ⟨X, HX⟩ : ∃ X, Hid (mkB (valW x.v) = X) := ⟨_, hide rfl⟩
        rw [HX.out] at Hsv
        have hll2 : (Nm :: (opsW nn x).map mkB).length ≤ 1000 := by have := opsW_len nn x; rw [List.length_cons, List.length_map]; omega
        clear h1 hO
        go_wp2_with (first
          | (go_at_call 40; refine (Hsv.out).mono ?_; rintro e w3 ⟨rfl, hg3⟩; obtain ⟨v', w', hr, hO', hg', hv'⟩ := app_str w3 _ _ _ X (hO2.keptN (Kp.ofN hg3 _)) (Nat.le_trans hbs hg3.size) hll2)
          | (at_builtin; refine iwpList_app_at rfl (.tmp 41) (.tmp 45) 40 40 rfl _ _ rfl rfl hr ?_))
        have hg4 : wr.grownBy w' u3.ownBlock := grown_trans (grown_row hg3 _) hg' (.inl rfl)
        go_ret
        exact ⟨_, rfl, Ow.monoB (ow_at hO' (by rw [HE.out, He.out, HX.out])) (by omega), Hgw.out _ hg4⟩
      · have h1' : (x.op == 1) = false := by simp [h1]
        have He : Hid ((if x.op = 1 then [mkB (valW x.v)] else []) = []) := if_neg h1
        clear h1 hO
        go_wp2
        go_ret
        exact ⟨_, rfl, Ow.monoB (ow_at hO2 (by rw [HE.out, He.out, List.append_nil])) (by omega), hg⟩

end Go.Proofs.YthopmlgfklhagaaGreatDoor
