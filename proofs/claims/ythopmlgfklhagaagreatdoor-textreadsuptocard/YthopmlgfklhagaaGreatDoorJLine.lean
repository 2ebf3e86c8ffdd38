/- Programs as text, in plain words (no program): lines and words; what is written is read again, and what is read has just these words. No conditions but those that each theorem states. -/
import Derived.Test.YthopmlgfklhagaaGreatDoorJText
namespace Go.Proofs.YthopmlgfklhagaaGreatDoor
open Go Go.RowKit
set_option linter.unusedVariables false

/-- The parts of bytes between a byte. -/
def splitC (c : UInt8) : List UInt8 → List (List UInt8)
  | [] => [[]]
  | x :: r => if x = c then [] :: splitC c r else (match splitC c r with | [] => [[x]] | h :: t => (x :: h) :: t)
theorem splitC_ne (c : UInt8) : ∀ l, splitC c l ≠ []
  | [] => by simp [splitC]
  | x :: r => by
    unfold splitC
    split
    · simp
    · split <;> simp
theorem splitC_at (c : UInt8) (r : List UInt8) : splitC c (c :: r) = [] :: splitC c r := by rw [splitC, if_pos rfl]
theorem splitC_cons (c x : UInt8) (r h : List UInt8) (t : List (List UInt8)) (hx : x ≠ c) (hr : splitC c r = h :: t) : splitC c (x :: r) = (x :: h) :: t := by rw [splitC, if_neg hx, hr]
theorem splitC_clean (c : UInt8) : ∀ (a r : List UInt8), (∀ x ∈ a, x ≠ c) → splitC c (a ++ c :: r) = a :: splitC c r
  | [], r, _ => splitC_at c r
  | x :: a, r, h => splitC_cons c x _ a _ (h x (by simp)) (splitC_clean c a r (fun y hy => h y (by simp [hy])))
theorem splitC_one (c : UInt8) : ∀ (a : List UInt8), (∀ x ∈ a, x ≠ c) → splitC c a = [a]
  | [], _ => rfl
  | x :: a, h => splitC_cons c x a a [] (h x (by simp)) (splitC_one c a (fun y hy => h y (by simp [hy])))
def wordsL (s : List UInt8) : List (List UInt8) := (splitC 32 s).filter (fun w => !w.isEmpty)
/-- Words, a blank between. -/
def joinW : List (List UInt8) → List UInt8
  | [] => []
  | [w] => w
  | w :: v :: r => w ++ 32 :: joinW (v :: r)
/-- A word without blanks and ends of lines. -/
def Cl (w : List UInt8) : Prop := w ≠ [] ∧ ∀ c ∈ w, 33 ≤ c.toNat
theorem Cl.n32 {w : List UInt8} (h : Cl w) : ∀ x ∈ w, x ≠ 32 := fun x hx e => by
  have h1 := h.2 x hx
  rw [e] at h1
  have : (32 : UInt8).toNat = 32 := rfl
  omega
theorem Cl.n10 {w : List UInt8} (h : Cl w) : ∀ x ∈ w, x ≠ 10 := fun x hx e => by
  have h1 := h.2 x hx
  rw [e] at h1
  have : (10 : UInt8).toNat = 10 := rfl
  omega
theorem wordsL_join : ∀ (ws : List (List UInt8)), (∀ w ∈ ws, Cl w) → wordsL (joinW ws) = ws
  | [], _ => rfl
  | [w], h => by
    have hw := h w (by simp)
    unfold wordsL joinW
    rw [splitC_one 32 w hw.n32]
    cases w with
    | nil => exact absurd rfl hw.1
    | cons c r => rfl
  | w :: v :: r, h => by
    have hw := h w (by simp)
    have ih := wordsL_join (v :: r) (fun x hx => h x (by simp only [List.mem_cons] at hx ⊢; exact .inr hx))
    unfold wordsL at ih ⊢
    rw [joinW, splitC_clean 32 w _ hw.n32, List.filter_cons]
    cases w with
    | nil => exact absurd rfl hw.1
    | cons c t => simp only [List.isEmpty_cons, Bool.not_false, if_true, ih]
theorem join_n10 : ∀ (ws : List (List UInt8)), (∀ w ∈ ws, Cl w) → ∀ x ∈ joinW ws, x ≠ 10
  | [], _ => fun x hx => by cases hx
  | [w], h => (h w (by simp)).n10
  | w :: v :: r, h => fun x hx => by
    have hx : x ∈ w ++ 32 :: joinW (v :: r) := hx
    rcases List.mem_append.1 hx with h1 | h1
    · exact (h w (by simp)).n10 x h1
    · rcases List.mem_cons.1 h1 with h2 | h2
      · rw [h2]; decide
      · exact join_n10 (v :: r) (fun y hy => h y (by simp only [List.mem_cons] at hy ⊢; exact .inr hy)) x h2
def lineI (x : In) : List UInt8 := joinW (wordsI x)
def textP (l : List In) : List UInt8 := l.flatMap (fun x => lineI x ++ [10])
theorem textP_cons (x : In) (l : List In) : textP (x :: l) = lineI x ++ 10 :: textP l := by simp [textP]
theorem textP_snoc (l : List In) (x : In) : textP (l ++ [x]) = textP l ++ (lineI x ++ [10]) := by simp [textP]
theorem cl_dec (u : Nat) : Cl (Lib.decDigits u) := by
  refine ⟨dec_ne u, fun c hc => ?_⟩
  have h := List.all_eq_true.1 (dec_digits u) c hc
  have := of_decide_eq_true h
  omega
theorem cl_itoa (z : Int) : Cl (Lib.itoa z) := by
  unfold Lib.itoa
  split
  · refine ⟨by simp, fun c hc => ?_⟩
    rcases List.mem_cons.1 hc with h | h
    · rw [h]; decide
    · exact (cl_dec _).2 c h
  · exact cl_dec _
theorem hexD_ge {n : Nat} (h : n < 16) : 33 ≤ (hexD n).toNat := by
  have : ∀ n : Nat, n < 16 → 33 ≤ (hexD n).toNat := by decide
  exact this n h
theorem cl_val (v : V) : Cl (valW v) := by
  unfold valW
  split
  · exact cl_itoa _
  · refine ⟨by simp, fun c hc => ?_⟩
    rcases List.mem_cons.1 hc with h | h
    · rw [h]; decide
    · obtain ⟨b, _, hb⟩ := List.mem_flatMap.1 h
      have hb2 := b.toNat_lt
      unfold hexB at hb
      rcases List.mem_cons.1 hb with h1 | h1
      · rw [h1]; exact hexD_ge (by omega)
      · rw [List.mem_singleton.1 h1]; exact hexD_ge (by omega)
theorem cl_name (op : Int) (h : opOk op = true) : Cl (nameB op) := by
  have h1 := of_decide_eq_true h
  unfold nameB
  rw [if_pos h]
  have key : ∀ i : Nat, i < 19 → (nmL.getD i []) ≠ [] ∧ ∀ c ∈ nmL.getD i [], 33 ≤ c.toNat := by decide
  exact key (op.toNat - 1) (by omega)
theorem cl_words (x : In) (h : okI x = true) : ∀ w ∈ wordsI x, Cl w := by
  intro w hw
  unfold wordsI at hw
  rcases List.mem_cons.1 hw with h1 | h1
  · rw [h1]; exact cl_name _ (okI_parts h).1
  · rcases List.mem_append.1 h1 with h2 | h2
    · unfold opsW at h2
      obtain ⟨z, _, rfl⟩ := List.mem_map.1 h2
      exact cl_itoa z
    · split at h2
      · rw [List.mem_singleton.1 h2]; exact cl_val _
      · cases h2
theorem words_line (x : In) (h : okI x = true) : wordsL (lineI x) = wordsI x := wordsL_join _ (cl_words x h)
theorem split_text (l : List In) (h : l.all okI = true) : splitC 10 (textP l) = l.map lineI ++ [[]] := by
  induction l with
  | nil => rfl
  | cons x l ih =>
    rw [List.all_cons, Bool.and_eq_true] at h
    rw [textP_cons, splitC_clean 10 (lineI x) (textP l) (join_n10 _ (cl_words x h.1)), ih h.2]
    rfl

def preT (x : In) : Except (Int × Int) (List In) → Except (Int × Int) (List In)
  | .ok l => .ok (x :: l)
  | .error e => .error e
/-- The instructions that lines are, k at most, or the first error: the line's number, and which. -/
def rdT : Nat → Int → List (List UInt8) → Except (Int × Int) (List In)
  | _, _, [] => .ok []
  | k, i, l :: r => if (wordsL l).isEmpty then rdT k (i + 1) r else match instU (wordsL l) with
    | none => .error (i + 1, 15)
    | some x => match k with
      | 0 => .error (i + 1, 3)
      | k + 1 => preT x (rdT k (i + 1) r)
theorem rdT_none (k : Nat) (i : Int) (l : List UInt8) (r : List (List UInt8)) (h : (wordsL l).isEmpty = true) : rdT k i (l :: r) = rdT k (i + 1) r := by
  rw [rdT, if_pos h]
theorem rdT_bad (k : Nat) (i : Int) (l : List UInt8) (r : List (List UInt8)) (h : (wordsL l).isEmpty = false) (hu : instU (wordsL l) = none) : rdT k i (l :: r) = .error (i + 1, 15) := by
  rw [rdT, if_neg (by simp [h]), hu]
theorem rdT_long (i : Int) (l : List UInt8) (r : List (List UInt8)) (h : (wordsL l).isEmpty = false) (x : In) (hu : instU (wordsL l) = some x) : rdT 0 i (l :: r) = .error (i + 1, 3) := by
  rw [rdT, if_neg (by simp [h]), hu]
theorem rdT_ok (k : Nat) (i : Int) (l : List UInt8) (r : List (List UInt8)) (h : (wordsL l).isEmpty = false) (x : In) (hu : instU (wordsL l) = some x) : rdT (k + 1) i (l :: r) = preT x (rdT k (i + 1) r) := by
  rw [rdT, if_neg (by simp [h]), hu]
theorem rdT_back : ∀ (l : List In) (k : Nat) (i : Int), (∀ x ∈ l, x.wf) → l.all okI = true → l.length ≤ k → rdT k i (l.map lineI ++ [[]]) = .ok l
  | [], k, i, _, _, _ => by
    show rdT k i [[]] = _
    rw [rdT_none k i [] [] rfl]
    rfl
  | x :: l, k, i, hw, h, hk => by
    rw [List.all_cons, Bool.and_eq_true] at h
    obtain ⟨k, rfl⟩ : ∃ k', k = k' + 1 := ⟨k - 1, by simp only [List.length_cons] at hk; omega⟩
    have he : (wordsL (lineI x)).isEmpty = false := by rw [words_line x h.1]; rfl
    have hu : instU (wordsL (lineI x)) = some x := by rw [words_line x h.1]; exact instU_words x (hw x (by simp)) h.1
    show rdT (k + 1) i (lineI x :: (l.map lineI ++ [[]])) = _
    rw [rdT_ok k i _ _ he x hu, rdT_back l k (i + 1) (fun y hy => hw y (by simp [hy])) h.2 (by simp only [List.length_cons] at hk; omega)]
    rfl
/-- The words of lines, written anew. -/
def wantT (ls : List (List UInt8)) : List UInt8 := ls.flatMap (fun s => if (wordsL s).isEmpty then [] else joinW (wordsL s) ++ [10])
theorem wf_of_ok (x : In) (h : okI x = true) (hn : -9223372036854775808 ≤ x.v.n ∧ x.v.n < 9223372036854775808) : x.wf := by
  obtain ⟨o1, o2, o3, o4, o5⟩ := okI_parts h
  have hb : ∀ o, byteOk o = true → ir o := fun o ho => by have := of_decide_eq_true ho; unfold ir; omega
  refine ⟨⟨hn.1, hn.2, ?_⟩, hb _ (opOk_byte o1), hb _ (fit_lt o2).1, hb _ (fit_lt o3).1, hb _ (fit_lt o4).1⟩
  split at o5
  · unfold okC at o5
    rw [Bool.and_eq_true] at o5
    have := of_decide_eq_true o5.2
    unfold maxLen
    omega
  · rw [(zeroB_iff _).1 o5]
    exact zV_wf.s0
theorem instU_wf (ws : List (List UInt8)) (x : In) (h : instU ws = some x) : x.wf := by
  have hk := (words_instU ws x h).2
  refine wf_of_ok x hk ?_
  unfold instU at h
  split at h
  · next hc =>
    simp only [Bool.and_eq_true, decide_eq_true_eq] at hc
    obtain ⟨⟨_, k6⟩, _⟩ := hc
    obtain rfl := Option.some.inj h
    show -9223372036854775808 ≤ (valAt (opU (ws.headD [])) ws).n ∧ (valAt (opU (ws.headD [])) ws).n < 9223372036854775808
    unfold valIs at k6
    unfold valAt
    split
    · next h1 =>
      rw [if_pos h1] at k6
      obtain ⟨v, hv⟩ := Option.isSome_iff_exists.1 k6
      rw [hv, Option.getD_some]
      exact (val_valU _ _ hv).2.2.2
    · exact ⟨by decide, by decide⟩
  · cases h
theorem rdT_only : ∀ (ls : List (List UInt8)) (k : Nat) (i : Int) (l : List In), rdT k i ls = .ok l → textP l = wantT ls ∧ l.all okI = true ∧ l.length ≤ k ∧ ∀ x ∈ l, x.wf
  | [], k, i, l, h => by
    have : l = [] := by cases k <;> (cases h; rfl)
    subst this
    exact ⟨rfl, rfl, Nat.zero_le _, fun x hx => by cases hx⟩
  | s :: r, k, i, l, h => by
    cases he : (wordsL s).isEmpty with
    | true =>
      rw [rdT_none k i s r he] at h
      obtain ⟨h1, h2, h3, h4⟩ := rdT_only r k (i + 1) l h
      refine ⟨?_, h2, h3, h4⟩
      unfold wantT at h1 ⊢
      rw [List.flatMap_cons, he, if_pos rfl, List.nil_append, h1]
    | false =>
      cases hu : instU (wordsL s) with
      | none => rw [rdT_bad k i s r he hu] at h; cases h
      | some x =>
        cases k with
        | zero => rw [rdT_long i s r he x hu] at h; cases h
        | succ k =>
          rw [rdT_ok k i s r he x hu] at h
          cases hr : rdT k (i + 1) r with
          | error e => rw [hr] at h; cases h
          | ok m =>
            rw [hr] at h
            cases h
            obtain ⟨h1, h2, h3, h4⟩ := rdT_only r k (i + 1) m hr
            obtain ⟨g1, g2⟩ := words_instU _ _ hu
            refine ⟨?_, ?_, ?_, ?_⟩
            · rw [textP_cons]
              unfold wantT at h1 ⊢
              rw [List.flatMap_cons, he, if_neg (by simp), ← h1]
              unfold lineI
              rw [g1]
              simp
            · rw [List.all_cons, g2, h2]; rfl
            · rw [List.length_cons]; omega
            · intro y hy
              rcases List.mem_cons.1 hy with rfl | hy
              · exact instU_wf _ _ hu
              · exact h4 y hy

end Go.Proofs.YthopmlgfklhagaaGreatDoor
