/- Contract, over the turned program: the bytes that pairs of digits are. Conditions: those that the theorem states. -/
import Derived.Test.YthopmlgfklhagaaGreatDoorJTg
import Derived.Test.YthopmlgfklhagaaGreatDoorJWg
import Derived.BigQuiet
namespace Go.Proofs.YthopmlgfklhagaaGreatDoor
open Go.RowKit
set_option linter.unusedVariables false

/-- Bytes that are read of pairs of digits: of a text's own digits that text. -/
def HexE (s : List UInt8) (l : List UInt8) : Prop := l.length ≤ 11 ∧ ∀ y : List UInt8, y.length ≤ 10 → s = hexL y → l = y
theorem ixc (w : World) (c : UInt8) : Calls Tryz.prog 68 #[.string ⟨#[48, 49, 50, 51, 52, 53, 54, 55, 56, 57, 97, 98, 99, 100, 101, 102]⟩, .int .u8 (c.toNat : Int)] w fun e w' => e = .returned (.int .i64 (ixU c)) ∧ w' = w := by
  have h := strings_IndexByte ⟨#[48, 49, 50, 51, 52, 53, 54, 55, 56, 57, 97, 98, 99, 100, 101, 102]⟩ (c.toNat : Int) w
  have e : (c.toNat : Int).toNat.toUInt8 = c := by simp
  rw [e] at h
  exact h

theorem sgetQ (s : ByteArray) (k : Nat) (h : k < s.size) : s.data.toList[k]? = some s[k] := by
  have hl : k < s.data.toList.length := by rw [Array.length_toList]; exact h
  rw [List.getElem?_eq_getElem hl]
  rfl
theorem own_slice {t : TypeId} {w : World} {base : Nat} {v : Value} {l : List UInt8} (h : Own t w base v l) : ∃ a c, v = .slice a l.length c := by
  rcases h.2 with ⟨rfl, h0⟩ | ⟨g, cap, cur, rfl, _⟩
  · exact ⟨none, 0, by rw [h0]⟩
  · exact ⟨_, _, rfl⟩
theorem src_oneV {P : Program} (w : World) (t e : TypeId) (ht : P.underlying t = some (.slice e)) (x : UInt8) (V : Int) (hV : V = (x.toNat : Int)) (g : Nat) (hg : w.heap.size = g) : Src P 1 t (.slice (some ⟨g, 0, none⟩) 1 1) 1 (bcs [x]) (w.alloc (.cells #[.int .u8 V] e)) := by
  subst hV
  exact src_one8 w t e ht x g hg

set_option maxRecDepth 100000 in
set_option maxHeartbeats 1000000 in
theorem bytesOf_any (s : ByteArray) (w : World) (hs : s.size ≤ 1099511627776) :
    Calls Tryz.prog 48 #[.string s] w fun e w' => (∃ l, e = .returned (.string ⟨l.toArray⟩) ∧ HexE s.data.toList l) ∧ w.grownBy w' none := by
  have hl : s.data.toList.length = s.size := Array.length_toList
  have Hl := hide hl
  clear hl
  go_enter Tryz.func48, Tryz.ntmps48
  go_wp2_with fail
  go_loopw [3, 4] (fun b i wr => ∃ (k : Nat) (L : List UInt8), i = .int .i64 (k : Int) ∧ k = 2 * L.length ∧ L.length ≤ 11 ∧ Own 5 wr w.heap.size b L ∧ w.grownBy wr none ∧ Hid (∀ y : List UInt8, s.data.toList = hexL y → L = y.take L.length)) (fun _ i _ => 24 - (intOf i).toNat)
  case atStart => exact ⟨0, [], rfl, rfl, by simp, Own.nil _ _ _, World.grownBy.refl _ _, fun y _ => by simp⟩
  case round =>
    obtain ⟨k, L, rfl, hk, hL, hO, hg, HY⟩ := hrel
    have HK := hide hk
    have HL := hide hL
    have hk30 : k < 30 := by omega
    clear hk hL
    obtain ⟨a0, cp, e0⟩ := own_slice hO
    by_cases h1 : (k : Int) + 1 < (s.size : Int)
    · by_cases h2 : (L.length : Int) ≤ 10
      · obtain ⟨m, hm⟩ : ∃ m : Nat, m = k + 1 := ⟨_, rfl⟩
        have hkl : k < s.size := by omega
        have hk20 : k ≤ 20 := by have := HK.out; omega
        have hml : m < s.size := by omega
        have hw1 : wrap64 ((k : Int) + 1) = (m : Int) := by unfold wrap64; omega
        have hw2 : IntKind.i64.wrap ((k : Int) + 1) = (m : Int) := by rw [IntKind.wrap_i64]; omega
        have Hm := hide hm
        clear hm
        have Hx1 : Hid (∀ W : World, Calls Tryz.prog 68 #[.string ⟨#[48, 49, 50, 51, 52, 53, 54, 55, 56, 57, 97, 98, 99, 100, 101, 102]⟩, .int .u8 (s[k].toNat : Int)] W fun e w' => e = .returned (.int .i64 (ixU s[k])) ∧ w' = W) := fun W => ixc W s[k]
        have Hx2 : Hid (∀ W : World, Calls Tryz.prog 68 #[.string ⟨#[48, 49, 50, 51, 52, 53, 54, 55, 56, 57, 97, 98, 99, 100, 101, 102]⟩, .int .u8 (s[m].toNat : Int)] W fun e w' => e = .returned (.int .i64 (ixU s[m])) ∧ w' = W) := fun W => ixc W s[m]
        obtain ⟨X, hX, HX⟩ : ∃ X : UInt8, bits BinOp.or IntKind.i64 (wrap64 (ixU s[k] * 16)) (ixU s[m]) % 256 = (X.toNat : Int) ∧ Hid (∀ c : UInt8, s[k] = hexD (c.toNat / 16) → s[m] = hexD (c.toNat % 16) → X = c) := by
          refine ⟨UInt8.ofNat (bits BinOp.or IntKind.i64 (wrap64 (ixU s[k] * 16)) (ixU s[m]) % 256).toNat, ?_, ?_⟩
          · rw [UInt8.toNat_ofNat']
            omega
          · intro c h1 h2
            have hc := c.toNat_lt
            rw [h1, h2, ix_hex _ (by omega), ix_hex _ (by omega), show wrap64 (((c.toNat / 16 : Nat) : Int) * 16) = ((c.toNat / 16 : Nat) : Int) * 16 by unfold wrap64; omega]
            have e := or_nib c
            rw [IntKind.wrap_u8] at e
            rw [e]
            simp
        have HY2 : Hid (∀ y : List UInt8, s.data.toList = hexL y → L ++ [X] = y.take (L ++ [X]).length) := by
          intro y hy
          have h3 := HY.out y hy
          have h4 := Hl.out
          have h5 := HK.out
          have h6 := Hm.out
          rw [hy, hexL_len] at h4
          have hj : L.length < y.length := by omega
          obtain ⟨g1, g2⟩ := hexL_at y L.length hj
          rw [← hy] at g1 g2
          have f1 : s.data.toList[k]? = some (hexD (y[L.length].toNat / 16)) := by rw [h5]; exact g1
          have f2 : s.data.toList[m]? = some (hexD (y[L.length].toNat % 16)) := by rw [h6, h5]; exact g2
          have e1 := Option.some.inj ((sgetQ s k hkl).symm.trans f1)
          have e2 := Option.some.inj ((sgetQ s m hml).symm.trans f2)
          have := HX.out _ e1 e2
          rw [List.length_append, List.length_singleton, List.take_succ_eq_append_getElem hj, ← h3, this]
        have hbs := hg.size
        have Hap : Hid (∀ W, wr.grownBy W none → ∃ v' w', (Builtin.append_ #[45, 45] 45 #[u3, .slice (some ⟨W.heap.size, 0, none⟩) 1 1]).run Tryz.prog (W.alloc (.cells #[.int .u8 (bits BinOp.or IntKind.i64 (wrap64 (ixU s[k] * 16)) (ixU s[m]) % 256)] 5)) = .ok v' w' ∧ Own 5 w' w.heap.size v' (L ++ [X]) ∧ w.grownBy w' none) := by
          intro W hW
          have h3 := HL.out
          obtain ⟨v', w', g1, g2, g3, g4⟩ := bw_app (W.alloc (.cells #[.int .u8 (bits BinOp.or IntKind.i64 (wrap64 (ixU s[k] * 16)) (ixU s[m]) % 256)] 5)) w.heap.size u3 L 45 45 45 Tryz.underlying45 (.inl ((hO.kept hW (by cases u3.ownBlock <;> simp)).alloc _)) _ [X] (src_oneV W 45 5 Tryz.underlying45 X _ hX W.heap.size rfl) (by simp) (by have := hW.size; simp; omega) (by simp; omega)
          exact ⟨v', w', g1, g2, grown_trans (grown_trans (grown_trans hg hW (.inl rfl)) (World.grownBy_alloc _ _ _) (.inl rfl)) g3 (by
            cases hu : u3.ownBlock with
            | none => exact .inl rfl
            | some q => exact .inr ⟨q, rfl, (hO.lt q hu).1⟩)⟩
        clear hX hO
        subst e0
        go_upto_region 5 with fail
        go_quiet (first
          | (go_at_call 68; exact Calls.quiet_of_same (Hx1.out _))
          | (go_at_call 68; exact Calls.quiet_of_same (Hx2.out _)))
        obtain ⟨v', w', hr, hO', hg'⟩ := Hap.out (wr.drewN nq) (Kp.drewN none' _ _).grown
        clear Hap
        go_wp2_with (at_builtin; refine iwpList_app_at rfl (.tmp 28) (.tmp 34) 45 45 rfl _ _ rfl rfl hr ?_)
        go_roundw
        case rel => exact ⟨k + 2, L ++ [X], by go_num, by have := HK.out; simp; omega, by simp; omega, hO', hg', HY2⟩
        case measure => simp [intOf]; omega
      · have He : Hid (HexE s.data.toList L) := by
          refine ⟨HL.out, fun y hy e => ?_⟩
          have h3 := HY.out y e
          rw [List.take_of_length_le (by omega)] at h3
          exact h3
        have hcv := run_convert_own wr 45 9 5 Tryz.underlying45 Tryz.underlying5 Tryz.underlying9 hO
        clear hO
        subst e0
        go_wp2_with fail
        go_ret
        exact ⟨⟨L, rfl, He.out⟩, hg⟩
    · have He : Hid (HexE s.data.toList L) := by
        refine ⟨HL.out, fun y hy e => ?_⟩
        have h3 := HY.out y e
        have h4 := Hl.out
        have h5 := HK.out
        rw [e, hexL_len] at h4
        rw [List.take_of_length_le (by omega)] at h3
        exact h3
      have hcv := run_convert_own wr 45 9 5 Tryz.underlying45 Tryz.underlying5 Tryz.underlying9 hO
      clear hO
      subst e0
      go_wp2_with fail
      go_ret
      exact ⟨⟨L, rfl, He.out⟩, hg⟩

end Go.Proofs.YthopmlgfklhagaaGreatDoor
