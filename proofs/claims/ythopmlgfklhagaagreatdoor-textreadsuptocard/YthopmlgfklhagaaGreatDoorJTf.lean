/- Contracts, over the turned program: strings.Cut at one byte, and the words of a line. Conditions: those that each theorem states. -/
import Derived.Test.YthopmlgfklhagaaGreatDoorJTe
import Derived.Lib.IndexLaws
namespace Go.Proofs.YthopmlgfklhagaaGreatDoor
open Go.RowKit
set_option linter.unusedVariables false

/-- What Cut answers: what is ahead of the first byte c, what is behind it, and whether there is one. -/
def CutP (c : UInt8) (l a r : List UInt8) (f : Bool) : Prop := (f = true ∧ l = a ++ c :: r ∧ ∀ x ∈ a, x ≠ c) ∨ (f = false ∧ a = l ∧ r = [] ∧ ∀ x ∈ a, x ≠ c)
theorem index_cases (l : List UInt8) (c : UInt8) : (Lib.indexByte l c = -1 ∧ ∀ x ∈ l, x ≠ c) ∨ ∃ o : Nat, Lib.indexByte l c = o ∧ o < l.length ∧ l = l.take o ++ c :: l.drop (o + 1) ∧ ∀ x ∈ l.take o, x ≠ c := by
  have h := Lib.indexByte_ge l c
  rcases (by omega : Lib.indexByte l c = -1 ∨ 0 ≤ Lib.indexByte l c) with h1 | h1
  · refine .inl ⟨h1, fun x hx e => ?_⟩
    obtain ⟨k, hk, rfl⟩ := List.mem_iff_getElem.1 hx
    exact Lib.indexByte_none h1 k (by rw [List.getElem?_eq_getElem hk, e])
  · obtain ⟨o, ho⟩ := Int.eq_ofNat_of_zero_le h1
    obtain ⟨h2, h3⟩ := Lib.indexByte_some ho
    obtain ⟨hl, hc⟩ := List.getElem?_eq_some_iff.1 h2
    refine .inr ⟨o, ho, hl, ?_, fun x hx e => ?_⟩
    · have := List.take_append_drop o l
      rw [List.drop_eq_getElem_cons hl, hc] at this
      exact this.symm
    · obtain ⟨k, hk, rfl⟩ := List.mem_iff_getElem.1 hx
      rw [List.length_take] at hk
      rw [List.getElem_take] at e
      exact h3 k (by omega) (by rw [List.getElem?_eq_getElem (by omega), e])
theorem ext_mkT (s : ByteArray) (f i : Nat) (hf : f ≤ i) : s.extract f i = mkB ((s.data.toList.drop f).take (i - f)) := by
  apply ByteArray.ext
  apply Array.ext'
  rw [ext_list]
  simp [mkB]

set_option maxRecDepth 100000 in
set_option maxHeartbeats 1000000 in
theorem cutl_one (s : ByteArray) (c : UInt8) (w : World) (hs : s.size ≤ 1099511627776) :
    Calls Tryz.prog 41 #[.string s, .string ⟨#[c]⟩] w fun e w' => (∃ a r f, e = .returned (.tuple #[.string (mkB a), .string (mkB r), .bool f]) ∧ CutP c s.data.toList a r f) ∧ w.grownBy w' none := by
  have hl : s.data.toList.length = s.size := Array.length_toList
  rcases index_cases s.data.toList c with ⟨h1, h2⟩ | ⟨o, h1, h2, h3, h4⟩
  · have Hi := hide (stringslite_Index_one s c)
    rw [h1] at Hi
    have Hr : Hid (∃ a r f, Ending.returned (.tuple #[.string s, .string ⟨#[]⟩, .bool false]) = .returned (.tuple #[.string (mkB a), .string (mkB r), .bool f]) ∧ CutP c s.data.toList a r f) :=
      ⟨s.data.toList, [], false, by rw [mkB_self]; rfl, .inr ⟨rfl, rfl, rfl, h2⟩⟩
    clear h1 h2
    go_enter Tryz.func41, Tryz.ntmps41
    go_wp2_with (go_at_call 61; refine (Hi.out _).mono ?_; rintro e w' ⟨rfl, rfl⟩)
    go_ret3
    exact ⟨Hr.out, World.grownBy.refl _ _⟩
  · have Hi := hide (stringslite_Index_one s c)
    rw [h1] at Hi
    have c1 : (0 : Int) ≤ (o : Int) := by omega
    have c2 : (o : Int) ≤ (s.size : Int) := by omega
    have c3 : (0 : Int) ≤ (o : Int) + 1 := by omega
    have c4 : (o : Int) + 1 ≤ (s.size : Int) := by omega
    have hxa : s.extract 0 o = mkB (s.data.toList.take o) := by rw [ext_mkT s 0 o (Nat.zero_le _)]; simp
    have hxb : s.extract (o + 1) s.size = mkB (s.data.toList.drop (o + 1)) := by
      rw [ext_mkT s (o + 1) s.size (by omega), List.take_of_length_le (by rw [List.length_drop]; omega)]
    have Hp : Hid (CutP c s.data.toList (s.data.toList.take o) (s.data.toList.drop (o + 1)) true) := .inl ⟨rfl, h3, h4⟩
    have hw1 : wrap64 ((o : Int) + 1) = (o : Int) + 1 := by unfold wrap64; omega
    obtain ⟨A, HA⟩ : ∃ A, Hid (s.data.toList.take o = A) := ⟨_, rfl⟩
    obtain ⟨R, HR⟩ : ∃ A, Hid (s.data.toList.drop (o + 1) = A) := ⟨_, rfl⟩
    rw [HA.out] at hxa Hp
    rw [HR.out] at hxb Hp
    clear h1 h2 h3 h4 hl
    go_enter Tryz.func41, Tryz.ntmps41
    go_upto_region 3 with (go_at_call 61; refine (Hi.out _).mono ?_; rintro e w' ⟨rfl, rfl⟩)
    go_quiet (fail)
    go_wp2
    go_ret3
    exact ⟨⟨A, R, true, rfl, Hp.out⟩, (Kp.drewN none' _ _).grown⟩

/-- What Cut hands back. -/
def CutE (c : UInt8) (l : List UInt8) (e : Ending) : Prop := ∃ a r f, e = .returned (.tuple #[.string (mkB a), .string (mkB r), .bool f]) ∧ CutP c l a r f
set_option maxRecDepth 100000 in
set_option maxHeartbeats 1000000 in
theorem cut_one (s : ByteArray) (c : UInt8) (w : World) (hs : s.size ≤ 1099511627776) :
    Calls Tryz.prog 20 #[.string s, .string ⟨#[c]⟩] w fun e w' => CutE c s.data.toList e ∧ w.grownBy w' none := by
  have Hc := hide (cutl_one s c)
  go_enter Tryz.func20, Tryz.ntmps20
  go_wp2_with (go_at_call 41; refine (Hc.out _ hs).mono ?_; rintro e w' ⟨⟨a, r, f, rfl, hp⟩, hg⟩; have Hp := hide hp; clear hp)
  go_ret3
  exact ⟨⟨a, r, f, rfl, Hp.out⟩, hg⟩

theorem trim_words : ∀ (t : List UInt8), wordsL (Lib.trimLeftB t 32) = wordsL t
  | [] => rfl
  | x :: t => by
    unfold Lib.trimLeftB
    rw [List.dropWhile_cons]
    split
    · next h =>
      have : x = 32 := by simpa using h
      rw [this, wordsL_blank]
      exact trim_words t
    · rfl
theorem trim_len (t : List UInt8) : (Lib.trimLeftB t 32).length ≤ t.length := List.Sublist.length_le (List.dropWhile_sublist _)
theorem trim_head (t : List UInt8) (x : UInt8) (r : List UInt8) (h : Lib.trimLeftB t 32 = x :: r) : x ≠ 32 := by
  intro e
  have h1 := List.head?_dropWhile_not (fun a : UInt8 => a == 32) t
  unfold Lib.trimLeftB at h
  rw [h, e] at h1
  simp at h1
theorem cut_words (t a r : List UInt8) (f : Bool) (hne : t ≠ []) (hh : ∀ x q, t = x :: q → x ≠ 32) (h : CutP 32 t a r f) : wordsL t = a :: wordsL r := by
  rcases h with ⟨_, h1, h2⟩ | ⟨_, h1, h2, h3⟩
  · have ha : a ≠ [] := by
      intro e
      rw [e] at h1
      exact hh 32 r h1 rfl
    rw [h1]
    exact wordsL_cut a r ha h2
  · subst h1 h2
    exact wordsL_last a hne h3
theorem cut_len {c : UInt8} {t a r : List UInt8} {f : Bool} (h : CutP c t a r f) : r.length ≤ t.length := by
  rcases h with ⟨_, h1, h2⟩ | ⟨_, h1, h2, h3⟩
  · rw [h1, List.length_append, List.length_cons]; omega
  · rw [h2]; simp
def lenV : Value → Nat
  | .slice _ n _ => n
  | _ => 0
theorem Ow.lenV {α : Type} {f : α → Value} {e : TypeId} {w : World} {base : Nat} {v : Value} {l : List α} (h : Ow f e w base v l) : YthopmlgfklhagaaGreatDoor.lenV v = l.length := by
  obtain ⟨a, c, rfl, _⟩ := h.open
  rfl

set_option maxRecDepth 100000 in
set_option maxHeartbeats 1000000 in
theorem words_any (s : ByteArray) (w : World) (hs : s.size ≤ 1099511627776) :
    Calls Tryz.prog 11 #[.string s] w fun e w' => ∃ v, e = .returned v ∧ Ow Value.string 9 w' w.heap.size v (((wordsL s.data.toList).take 5).map mkB) ∧ w.grownBy w' none := by
  have hsl : s.data.toList.length ≤ 1099511627776 := by have : s.data.toList.length = s.size := Array.length_toList; omega
  have hs0 : s = mkB s.data.toList := (mkB_self s).symm
  generalize s.data.toList = S at *
  subst hs0
  clear hs
  go_enter Tryz.func11, Tryz.ntmps11
  go_wp2_with fail
  go_loopw [0, 3] (fun ln v wr => ∃ (t : List UInt8) (P : List (List UInt8)), ln = .string (mkB t) ∧ P.length ≤ 5 ∧ t.length ≤ 1099511627776 ∧ Ow Value.string 9 wr w.heap.size v (P.map mkB) ∧ w.grownBy wr none ∧ Hid (wordsL S = P ++ wordsL t)) (fun _ v _ => 5 - lenV v)
  case atStart => exact ⟨S, [], rfl, by simp, hsl, Ow.nil _ _ _ _, World.grownBy.refl _ _, rfl⟩
  case round =>
    obtain ⟨t, P, rfl, hP, ht, hO, hg, HW⟩ := hrel
    have hbs := hg.size
    have hlv := hO.lenV
    rw [List.length_map] at hlv
    obtain ⟨a0, cp, e0, _⟩ := hO.open
    rw [List.length_map] at e0
    by_cases h4 : (P.length : Int) ≤ 4
    · have Htr := hide (strings_TrimLeft_one (mkB t) 32 (by decide))
      rw [mkB_list] at Htr
      have Hw1 := hide (trim_words t)
      have Hl1 := hide (trim_len t)
      have Hh1 := hide (trim_head t)
      generalize Lib.trimLeftB t 32 = t1 at *
      have htr : ∀ W : World, Calls Tryz.prog 21 #[.string (mkB t), .string ⟨#[32]⟩] W fun e w' => e = .returned (.string (mkB t1)) ∧ w' = W := Htr.out
      have Htr2 := hide htr
      clear htr Htr
      by_cases he : t1 = []
      · have Hr : Hid ((wordsL S).take 5 = P) := by
          show _ = _
          rw [HW.out, ← Hw1.out, he]
          show (P ++ []).take 5 = P
          rw [List.append_nil, List.take_of_length_le hP]
        have hem : ((mkB t1).toList == []) = true := by rw [ByteArray.toList_eq, mkB_list, he]; rfl
        have hem2 : (mkB t1).toList.isEmpty = true := by rw [ByteArray.toList_eq, mkB_list, he]; rfl
        subst e0
        generalize mkB t1 = X at *
        clear he
        go_wp2_with (go_at_call 21; refine (Htr2.out _).mono ?_; rintro e w' ⟨rfl, rfl⟩)
        go_ret
        rw [Hr.out]
        exact ⟨_, rfl, hO, hg⟩
      · have hem : ((mkB t1).toList == []) = false := by rw [ByteArray.toList_eq, mkB_list]; cases t1 with | nil => exact absurd rfl he | cons _ _ => rfl
        have hem2 : (mkB t1).toList.isEmpty = false := by rw [ByteArray.toList_eq, mkB_list]; cases t1 with | nil => exact absurd rfl he | cons _ _ => rfl
        have Hct : Hid (∀ W : World, Calls Tryz.prog 20 #[.string (mkB t1), .string ⟨#[32]⟩] W fun e w' => CutE 32 t1 e ∧ W.grownBy w' none) := by
          intro W
          have h := cut_one (mkB t1) 32 W (by rw [mkB_size]; have := Hl1.out; omega)
          rw [mkB_list] at h
          exact h
        have Hcw := hide (fun a r f => cut_words t1 a r f he (fun x q e => Hh1.out x q e))
        have hl2 : t1.length ≤ 1099511627776 := Nat.le_trans Hl1.out ht
        have hlP : (P.map mkB).length ≤ 1000 := by rw [List.length_map]; omega
        subst e0
        clear he
        go_wp2_with (first
          | (go_at_call 21; refine (Htr2.out _).mono ?_; rintro e w' ⟨rfl, rfl⟩)
          | (go_at_call 20; refine (Hct.out _).mono ?_; rintro e w2 ⟨⟨a, r, f, rfl, hcp⟩, hg2⟩; have Hcp := hide hcp; clear hcp; obtain ⟨v', w', hr, hO', hg', hv'⟩ := app_str w2 _ _ _ (mkB a) (hO.keptN (Kp.ofN hg2 _)) (Nat.le_trans hbs hg2.size) hlP)
          | (at_builtin; refine iwpList_app_at rfl (.tmp 20) (.tmp 22) 40 40 rfl _ _ rfl rfl hr ?_))
        go_roundw
        case rel =>
          refine ⟨r, P ++ [a], rfl, by rw [List.length_append, List.length_singleton]; omega, Nat.le_trans (cut_len Hcp.out) hl2, ow_at hO' (by simp), ?_, ?_⟩
          · exact grown_trans (grown_trans hg hg2 (.inl rfl)) hg' (by
              cases a0 with
              | none => exact .inl rfl
              | some q => exact .inr ⟨_, rfl, (hO.lt _ rfl).1⟩)
          · show _ = _
            rw [HW.out, ← Hw1.out, Hcw.out a r f Hcp.out, List.append_assoc]
            rfl
        case measure =>
          have h5 := hO'.lenV
          rw [List.length_append, List.length_map, List.length_singleton] at h5
          rw [h5]
          show 5 - (P.length + 1) < 5 - P.length
          omega
    · have Hr : Hid ((wordsL S).take 5 = P) := by
        show _ = _
        rw [HW.out, show 5 = P.length by omega, List.take_left']
        rfl
      subst e0
      go_wp2
      go_ret
      first | rw [Hr.out] | rw [← List.map_take, Hr.out]
      exact ⟨_, rfl, hO, hg⟩

end Go.Proofs.YthopmlgfklhagaaGreatDoor
