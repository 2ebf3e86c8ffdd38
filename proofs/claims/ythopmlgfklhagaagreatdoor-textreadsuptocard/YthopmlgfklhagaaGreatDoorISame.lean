/- Contracts, over the turned program: code.Same and the document's Same tell whether two programs are the same in each field. Conditions: those that each theorem states. -/
import Derived.Test.YthopmlgfklhagaaGreatDoorIDefs
import Derived.Test.YthopmlgfklhagaaGreatDoorRefRead
import Derived.BigQuiet
namespace Go.Proofs.YthopmlgfklhagaaGreatDoor
open Go.RowKit
set_option linter.unusedVariables false

def eqI (x y : In) : Bool := x.op == y.op && x.a == y.a && x.b == y.b && x.c == y.c && x.v.k == y.v.k && x.v.n == y.v.n && (x.v.s.toList == y.v.s.toList)
theorem eqI_iff {x y : In} : eqI x y = true ↔ x = y := by
  obtain ⟨a, b, c, d, k, n, s⟩ := x
  obtain ⟨a', b', c', d', k', n', s'⟩ := y
  unfold eqI
  simp only [Bool.and_eq_true, beq_iff_eq, In.mk.injEq, V.mk.injEq]
  constructor
  · rintro ⟨⟨⟨⟨⟨⟨rfl, rfl⟩, rfl⟩, rfl⟩, rfl⟩, rfl⟩, h⟩
    rw [ByteArray.toList_eq, ByteArray.toList_eq] at h
    exact ⟨rfl, rfl, rfl, rfl, rfl, rfl, by rw [← mkB_self s, ← mkB_self s', h]⟩
  · rintro ⟨rfl, rfl, rfl, rfl, rfl, rfl, rfl⟩
    exact ⟨⟨⟨⟨⟨⟨rfl, rfl⟩, rfl⟩, rfl⟩, rfl⟩, rfl⟩, rfl⟩
def sameI : List In → List In → Bool
  | [], [] => true
  | x :: l, y :: m => eqI x y && sameI l m
  | _, _ => false
theorem sameI_iff : ∀ {l m : List In}, sameI l m = true ↔ l = m
  | [], [] => by simp [sameI]
  | x :: l, y :: m => by simp [sameI, eqI_iff, sameI_iff (l := l) (m := m)]
  | [], _ :: _ => by simp [sameI]
  | _ :: _, [] => by simp [sameI]
theorem sameI_self (l : List In) : sameI l l = true := sameI_iff.2 rfl

set_option maxRecDepth 100000 in
set_option maxHeartbeats 2000000 in
theorem rsame13_any (v v' : Value) (l m : List In) (w : World) (hT : Ins w v l) (hT' : Ins w v' m) :
    Calls Tryz.prog 7 #[v, v'] w fun e w' => e = .returned (.bool (sameI l m)) ∧ w.grownBy w' none := by
  obtain ⟨a, c, rfl, hc, hm, hL⟩ := hT
  obtain ⟨a', c', rfl, hc', hm', hL'⟩ := hT'
  have hlm : l.length ≤ maxLen := Nat.le_trans hc hm
  have hlm' : m.length ≤ maxLen := Nat.le_trans hc' hm'
  unfold maxLen at hlm hlm'
  obtain ⟨B, HB⟩ : ∃ B, Hid (sameI l m = B) := ⟨_, rfl⟩
  have HT : Hid (l = m → B = true) := fun h => by rw [← HB.out, sameI_iff]; exact h
  have HF : Hid (l ≠ m → B = false) := fun h => by
    rw [← HB.out]
    cases hh : sameI l m with
    | false => rfl
    | true => exact absurd (sameI_iff.1 hh) h
  rw [HB.out]
  by_cases hlen : l.length = m.length
  · have hne : ((l.length : Int) == (m.length : Int)) = true := by simp [hlen]
    have hne2 : ((l.length : Int) != (m.length : Int)) = false := by simp [hlen]
    have HL := hide hL
    have HL' := hide hL'
    have Hlen := hide hlen
    clear hL hL' hlen
    go_enter Tryz.func7, Tryz.ntmps7
    go_wp2_with fail
    go_loopw [5] (fun i wr => ∃ j : Nat, j ≤ l.length ∧ i = .int .i64 j ∧ Hid (l.take j = m.take j) ∧ w.grownBy wr none) (fun i _ => l.length - (intOf i).toNat)
    case atStart => exact ⟨0, Nat.zero_le _, rfl, rfl, World.grownBy.refl _ _⟩
    case round =>
      obtain ⟨j, hj, rfl, He, hg⟩ := hrel
      by_cases hlt : j < l.length
      · have hlt' : j < m.length := by have := Hlen.out; omega
        obtain ⟨b, off, rfl, hb, hcs⟩ := HL.out j hlt
        obtain ⟨b', off', rfl, hb', hcs'⟩ := HL'.out j hlt'
        have hs := hg.block b hb (by simp)
        have hs' := hg.block b' hb' (by simp)
        have hd : ∀ q u, (In.cells l[j])[q]? = some u → wr.cell? ⟨b, off + j * 7 + q, none⟩ = some u := fun q u hu => by rw [cell_same hs]; exact hcs q u hu
        have hd' : ∀ q u, (In.cells m[j])[q]? = some u → wr.cell? ⟨b', off' + j * 7 + q, none⟩ = some u := fun q u hu => by rw [cell_same hs']; exact hcs' q u hu
        have hji : (j : Int) < (l.length : Int) := by omega
        have hji' : (j : Int) < (m.length : Int) := by omega
        have Hs1 : Hid (l.take (j + 1) = l.take j ++ [l[j]]) := List.take_succ_eq_append_getElem hlt
        have Hs2 : Hid (m.take (j + 1) = m.take j ++ [m[j]]) := List.take_succ_eq_append_getElem hlt'
        have Hne : Hid (l[j] ≠ m[j] → B = false) := by
          intro h1
          refine HF.out ?_
          intro h2
          subst h2
          exact h1 rfl
        clear hs hs' hcs hcs'
        generalize l[j] = x at *
        generalize m[j] = y at *
        obtain ⟨xop, xa, xb, xc, xk, xn, xs⟩ := x
        obtain ⟨yop, ya, yb, yc, yk, yn, ys⟩ := y
        obtain ⟨c0, c1, c2, c3, c4, c5, c6⟩ := cells7 hd
        obtain ⟨e0, e1, e2, e3, e4, e5, e6⟩ := cells7 hd'
        dsimp only at c0 c1 c2 c3 c4 c5 c6 e0 e1 e2 e3 e4 e5 e6
        clear hd hd'
        go_upto_region 6 with fail
        by_cases hop : xop = yop
        · by_cases ha : xa = ya
          · by_cases hb : xb = yb
            · by_cases hc : xc = yc
              · by_cases hk : xk = yk
                · by_cases hn : xn = yn
                  · by_cases hs : xs = ys
                    · have He2 : Hid (l.take (j + 1) = m.take (j + 1)) := by show _ = _; rw [Hs1.out, Hs2.out, He.out, hop, ha, hb, hc, hk, hn, hs]
                      have hop' : (xop == yop) = true := by simp [hop]
                      have ha' : (xa == ya) = true := by simp [ha]
                      have hb' : (xb == yb) = true := by simp [hb]
                      have hc' : (xc == yc) = true := by simp [hc]
                      have hk' : (xk == yk) = true := by simp [hk]
                      have hn' : (xn == yn) = true := by simp [hn]
                      have hs' : (xs.toList == ys.toList) = true := by simp [hs]
                      clear hop ha hb hc hk hn hs
                      go_quiet (fail)
                      go_wp2_with fail
                      go_roundw
                      case rel => exact ⟨j + 1, by omega, by go_num, He2, grown_up hg (grown_drewN _ _ _)⟩
                      case measure => simp [intOf]; omega
                    · have HN : Hid (B = false) := Hne.out (by intro h; exact hs (congrArg (fun x : In => x.v.s) h))
                      have hop' : (xop == yop) = true := by simp [hop]
                      have ha' : (xa == ya) = true := by simp [ha]
                      have hb' : (xb == yb) = true := by simp [hb]
                      have hc' : (xc == yc) = true := by simp [hc]
                      have hk' : (xk == yk) = true := by simp [hk]
                      have hn' : (xn == yn) = true := by simp [hn]
                      have hs' : (xs.toList == ys.toList) = false := by
                        rw [beq_eq_false_iff_ne]
                        intro h
                        rw [ByteArray.toList_eq, ByteArray.toList_eq] at h
                        exact hs (by rw [← mkB_self xs, ← mkB_self ys, h])
                      clear hop ha hb hc hk hn hs
                      go_quiet (fail)
                      go_wp2
                      go_ret
                      rw [HN.out]
                      exact ⟨rfl, grown_up hg (grown_drewN _ _ _)⟩
                  · have HN : Hid (B = false) := Hne.out (by intro h; exact hn (congrArg (fun x : In => x.v.n) h))
                    have hop' : (xop == yop) = true := by simp [hop]
                    have ha' : (xa == ya) = true := by simp [ha]
                    have hb' : (xb == yb) = true := by simp [hb]
                    have hc' : (xc == yc) = true := by simp [hc]
                    have hk' : (xk == yk) = true := by simp [hk]
                    have hn' : (xn == yn) = false := by simp [hn]
                    clear hop ha hb hc hk hn
                    go_quiet (fail)
                    go_wp2
                    go_ret
                    rw [HN.out]
                    exact ⟨rfl, grown_up hg (grown_drewN _ _ _)⟩
                · have HN : Hid (B = false) := Hne.out (by intro h; exact hk (congrArg (fun x : In => x.v.k) h))
                  have hop' : (xop == yop) = true := by simp [hop]
                  have ha' : (xa == ya) = true := by simp [ha]
                  have hb' : (xb == yb) = true := by simp [hb]
                  have hc' : (xc == yc) = true := by simp [hc]
                  have hk' : (xk == yk) = false := by simp [hk]
                  clear hop ha hb hc hk
                  go_quiet (fail)
                  go_wp2
                  go_ret
                  rw [HN.out]
                  exact ⟨rfl, grown_up hg (grown_drewN _ _ _)⟩
              · have HN : Hid (B = false) := Hne.out (by intro h; exact hc (congrArg In.c h))
                have hop' : (xop == yop) = true := by simp [hop]
                have ha' : (xa == ya) = true := by simp [ha]
                have hb' : (xb == yb) = true := by simp [hb]
                have hc' : (xc == yc) = false := by simp [hc]
                clear hop ha hb hc
                go_quiet (fail)
                go_wp2
                go_ret
                rw [HN.out]
                exact ⟨rfl, grown_up hg (grown_drewN _ _ _)⟩
            · have HN : Hid (B = false) := Hne.out (by intro h; exact hb (congrArg In.b h))
              have hop' : (xop == yop) = true := by simp [hop]
              have ha' : (xa == ya) = true := by simp [ha]
              have hb' : (xb == yb) = false := by simp [hb]
              clear hop ha hb
              go_quiet (fail)
              go_wp2
              go_ret
              rw [HN.out]
              exact ⟨rfl, grown_up hg (grown_drewN _ _ _)⟩
          · have HN : Hid (B = false) := Hne.out (by intro h; exact ha (congrArg In.a h))
            have hop' : (xop == yop) = true := by simp [hop]
            have ha' : (xa == ya) = false := by simp [ha]
            clear hop ha
            go_quiet (fail)
            go_wp2
            go_ret
            rw [HN.out]
            exact ⟨rfl, grown_up hg (grown_drewN _ _ _)⟩
        · have HN : Hid (B = false) := Hne.out (by intro h; exact hop (congrArg In.op h))
          have hop' : (xop == yop) = false := by simp [hop]
          clear hop
          go_quiet (fail)
          go_wp2
          go_ret
          rw [HN.out]
          exact ⟨rfl, grown_up hg (grown_drewN _ _ _)⟩
      · have Hend : Hid (B = true) := by
          refine HT.out ?_
          have h1 := He.out
          have h2 := Hlen.out
          rwa [List.take_of_length_le (by omega), List.take_of_length_le (by omega)] at h1
        go_wp2
        go_ret
        rw [Hend.out]
        exact ⟨rfl, hg⟩
  · have hne : ((l.length : Int) == (m.length : Int)) = false := by rw [beq_eq_false_iff_ne]; omega
    have hne2 : ((l.length : Int) != (m.length : Int)) = true := by rw [bne_iff_ne]; omega
    have Hend : Hid (B = false) := HF.out (by intro h; subst h; exact hlen rfl)
    clear hlen hL hL'
    go_enter Tryz.func7, Tryz.ntmps7
    go_wp2
    go_ret
    rw [Hend.out]
    exact ⟨rfl, World.grownBy.refl _ _⟩

end Go.Proofs.YthopmlgfklhagaaGreatDoor
