/- Pages, which are used, a piece of work: plain mathematics, nothing of the program. Conditions: those that each theorem states. A piece of work: what is taken and dropped, what goes back: plain mathematics, nothing of the program. Conditions: those that each theorem states. -/
import Derived.Test.YtmnedhlgplkfhaaGreatJB
namespace Go.Proofs.YtmnedhlgplkfhaaGreat
set_option linter.unusedVariables false

/-- A byte of a page. -/
def byteAt (s : ByteArray) (i : Nat) : UInt8 := s.data.toList.getD i 0
/-- A page's bit, and page 0 with it turned. -/
def bitOf (s : ByteArray) (n : Nat) : Bool := (byteAt s (n / 8)).toNat / 2 ^ (n % 8) % 2 == 1
def turnS (s : ByteArray) (n : Nat) : ByteArray := ⟨(s.data.toList.set (n / 8) (byteAt s (n / 8) ^^^ UInt8.ofNat (2 ^ (n % 8)))).toArray⟩
theorem turnS_size (s : ByteArray) (n : Nat) : (turnS s n).size = s.size := by
  show (s.data.toList.set _ _).toArray.size = s.data.size
  simp
/-- What xor with one bit makes of that bit and of the others. -/
theorem xor_bit (a : UInt8) (i j : Nat) (hi : i < 8) (hj : j < 8) : ((a ^^^ UInt8.ofNat (2 ^ i)).toNat / 2 ^ j % 2 == 1) = if i = j then !(a.toNat / 2 ^ j % 2 == 1) else (a.toNat / 2 ^ j % 2 == 1) := by
  have e : ∀ x : Nat, (x / 2 ^ j % 2 == 1) = x.testBit j := fun x => by rw [Nat.testBit_eq_decide_div_mod_eq]; cases h : (x / 2 ^ j % 2 == 1) <;> simp_all
  have hp : (UInt8.ofNat (2 ^ i)).toNat = 2 ^ i := by
    have : 2 ^ i < 256 := by
      have := Nat.pow_lt_pow_right (a := 2) (by omega) hi
      simpa using this
    simp [Nat.mod_eq_of_lt this]
  rw [e, e, UInt8.toNat_xor, Nat.testBit_xor, hp, Nat.testBit_two_pow]
  by_cases h : i = j
  · simp [h]
  · simp [h]
theorem bit_turn (s : ByteArray) (n m : Nat) (hn : n / 8 < s.size) : bitOf (turnS s n) m = if n = m then !bitOf s m else bitOf s m := by
  unfold bitOf byteAt turnS
  have hl : n / 8 < s.data.toList.length := by simpa using hn
  simp only [List.getD_eq_getElem?_getD, List.getElem?_set]
  by_cases h8 : n / 8 = m / 8
  · rw [if_pos h8, if_pos (by omega)]
    rw [Option.getD_some]
    have e : s.data.toList[m / 8]?.getD 0 = byteAt s (m / 8) := by unfold byteAt; rw [List.getD_eq_getElem?_getD]
    rw [e, xor_bit (byteAt s (n / 8)) (n % 8) (m % 8) (Nat.mod_lt _ (by omega)) (Nat.mod_lt _ (by omega)), h8]
    by_cases h : n = m
    · subst h; simp
    · rw [if_neg h, if_neg (by omega)]
  · rw [if_neg h8, if_neg (by intro h; exact h8 (by rw [h]))]
/-- Pages: is one used; is it there and used, but page 0. -/
def pg0 (l : List ByteArray) : ByteArray := l.getD 0 ⟨#[]⟩
def isU (l : List ByteArray) (n : Nat) : Bool := n == 0 || bitOf (pg0 l) n
def thereS (l : List ByteArray) (z : Int) : Bool := decide (0 < z ∧ z < (l.length : Int)) && isU l z.toNat
/-- Page n's bit is turned. -/
def turnL (l : List ByteArray) (n : Nat) : List ByteArray := l.set 0 (turnS (pg0 l) n)
theorem turnL_len (l : List ByteArray) (n : Nat) : (turnL l n).length = l.length := by simp [turnL]
theorem isU_turn {l : List ByteArray} {n m : Nat} (h0 : 0 < l.length) (hs : (pg0 l).size = 256) (hn : n < 2048) (hm : 0 < m) : isU (turnL l n) m = if n = m then !isU l m else isU l m := by
  have e : pg0 (turnL l n) = turnS (pg0 l) n := by
    unfold turnL
    show (l.set 0 _).getD 0 _ = _
    rw [List.getD_eq_getElem?_getD, List.getElem?_set]
    simp [h0]
  unfold isU
  rw [e, bit_turn _ _ _ (by omega)]
  have hm' : (m == 0) = false := by simpa using (by omega : m ≠ 0)
  rw [hm']
  simp
/-- The lowest page, from n on, that isn't used. -/
def lowest (l : List ByteArray) : Nat → Nat → Option Nat
  | 0, _ => none
  | k + 1, n => if isU l n then lowest l k (n + 1) else some n
/-- A piece of work: the pages that it began with, those that are there now, the notes, whether it is over. -/
structure Sw where
  base : List ByteArray
  now : List ByteArray
  notes : List (List ByteArray)
  over : Bool
def Sw.read (s : Sw) (z : Int) : ByteArray × Int := if s.over then (⟨#[]⟩, 13) else if thereS s.now z then (s.now.getD z.toNat ⟨#[]⟩, 0) else (⟨#[]⟩, 7)
def Sw.writeE (s : Sw) (z : Int) (x : ByteArray) : Int := if s.over then 13 else if thereS s.now z then (if x.size = 256 then 0 else 1) else 7
def Sw.write (s : Sw) (z : Int) (x : ByteArray) : Sw := if s.writeE z x = 0 then { s with now := s.now.set z.toNat x } else s
def Sw.free (s : Sw) : Option Nat := lowest s.now (s.now.length - 1) 1
def Sw.takeE (s : Sw) : Int × Int := if s.over then (0, 13) else match s.free with
  | some n => ((n : Int), 0)
  | none => (0, 8)
def Sw.take (s : Sw) (Z : ByteArray) : Sw := if s.over then s else match s.free with
  | some n => { s with now := (turnL s.now n).set n Z }
  | none => s
def Sw.dropE (s : Sw) (z : Int) : Int := if s.over then 13 else if thereS s.now z then 0 else 7
def Sw.drop (s : Sw) (z : Int) : Sw := if s.dropE z = 0 then { s with now := turnL s.now z.toNat } else s
def Sw.head (s : Sw) : ByteArray := if s.over then ⟨#[]⟩ else ⟨((pg0 s.now).data.toList.drop 20).toArray⟩
def Sw.setHeadE (s : Sw) (x : ByteArray) : Int := if s.over then 13 else if 236 < x.size then 3 else 0
def headP (p x : ByteArray) : ByteArray := ⟨(p.data.toList.take 20 ++ x.data.toList ++ List.replicate (236 - x.size) 0).toArray⟩
def Sw.setHead (s : Sw) (x : ByteArray) : Sw := if s.setHeadE x = 0 then { s with now := s.now.set 0 (headP (pg0 s.now) x) } else s
def Sw.saveN (s : Sw) : Int := if s.over then 0 else (s.notes.length : Int)
def Sw.save (s : Sw) : Sw := if s.over then s else { s with notes := s.notes ++ [s.now] }
def Sw.backE (s : Sw) (k : Int) : Int := if s.over then 13 else if 0 ≤ k ∧ k < (s.notes.length : Int) then 0 else 7
def Sw.back (s : Sw) (k : Int) : Sw := if s.backE k = 0 then { s with now := s.notes.getD k.toNat [], notes := s.notes.take (k.toNat + 1) } else s
def Sw.usedN (s : Sw) : Nat := if s.over then 0 else ((List.range s.now.length).filter (isU s.now)).length
def chgs (b l : List ByteArray) : List Nat := (List.range l.length).filter (fun i => isU l i && decide (l.getD i ⟨#[]⟩ ≠ b.getD i ⟨#[]⟩))
def Sw.changed (s : Sw) : List Nat := if s.over then [] else chgs s.base s.now
def Sw.commitE (s : Sw) : Int := if s.over then 13 else if 31 < s.changed.length then 3 else 0
/-- The pages behind a commit. -/
def Sw.pages (s : Sw) (p : List ByteArray) : List ByteArray := if s.commitE = 0 then s.changed.foldl (fun q i => q.set i (s.now.getD i ⟨#[]⟩)) p else p
def Sw.commit (s : Sw) : Sw := if s.commitE = 0 then { s with over := true } else s
end Go.Proofs.YtmnedhlgplkfhaaGreat

namespace Go.Proofs.YtmnedhlgplkfhaaGreat
set_option linter.unusedVariables false

theorem lowest_some (l : List ByteArray) : ∀ k n m, n ≤ m → m < n + k → (∀ i, n ≤ i → i < m → isU l i = true) → isU l m = false → lowest l k n = some m := by
  intro k
  induction k with
  | zero => intro n m h1 h2; omega
  | succ k ih =>
    intro n m h1 h2 h3 h4
    unfold lowest
    by_cases h : n = m
    · subst h
      rw [h4]
      rfl
    · rw [h3 n (Nat.le_refl _) (by omega), if_pos rfl]
      exact ih (n + 1) m (by omega) (by omega) (fun i hi hi' => h3 i (by omega) hi') h4
theorem lowest_none (l : List ByteArray) : ∀ k n, (∀ i, n ≤ i → i < n + k → isU l i = true) → lowest l k n = none := by
  intro k
  induction k with
  | zero => intro n _; rfl
  | succ k ih =>
    intro n h
    unfold lowest
    rw [h n (Nat.le_refl _) (by omega), if_pos rfl]
    exact ih (n + 1) (fun i hi hi' => h i (by omega) (by omega))
theorem pg0_set (l : List ByteArray) (n : Nat) (x : ByteArray) (hn : 0 < n) : pg0 (l.set n x) = pg0 l := by
  unfold pg0
  rw [List.getD_eq_getElem?_getD, List.getD_eq_getElem?_getD, List.getElem?_set, if_neg (by omega)]
theorem isU_set (l : List ByteArray) (n m : Nat) (x : ByteArray) (hn : 0 < n) : isU (l.set n x) m = isU l m := by
  unfold isU
  rw [pg0_set l n x hn]
theorem pg0_size' {l : List ByteArray} (h0 : 0 < l.length) (hs : ∀ x ∈ l, x.size = 256) : (pg0 l).size = 256 := by
  unfold pg0
  rw [List.getD_eq_getElem?_getD, List.getElem?_eq_getElem h0]
  exact hs _ (List.getElem_mem h0)
theorem sizes_set {l : List ByteArray} {n : Nat} {x : ByteArray} (hs : ∀ y ∈ l, y.size = 256) (hx : x.size = 256) : ∀ y ∈ l.set n x, y.size = 256 := fun y hy => by
  rcases List.mem_or_eq_of_mem_set hy with h | h
  · exact hs y h
  · rw [h]; exact hx
/-- A piece of work that isn't over, and which of its pages, but page 0, are used. -/
structure Tk (s : Sw) (n : Nat) (U : Nat → Bool) : Prop where
  ov : s.over = false
  len : s.now.length = n
  l0 : 0 < n
  l1 : n ≤ 160
  sz : ∀ x ∈ s.now, x.size = 256
  us : ∀ i, 0 < i → i < n → isU s.now i = U i
theorem Tk.turn {s : Sw} {n : Nat} {U : Nat → Bool} (h : Tk s n U) (m : Nat) (hm : 0 < m) (hmn : m < n) : Tk { s with now := turnL s.now m } n (fun i => if m = i then !U i else U i) := by
  have h0 : 0 < s.now.length := by rw [h.len]; exact h.l0
  refine ⟨h.ov, by rw [← h.len]; exact turnL_len _ _, h.l0, h.l1, sizes_set h.sz (by rw [turnS_size]; exact pg0_size' h0 h.sz), fun i hi hin => ?_⟩
  have := h.l1
  show isU (turnL s.now m) i = _
  rw [isU_turn h0 (pg0_size' h0 h.sz) (by omega) hi, h.us i hi hin]
theorem Tk.put {s : Sw} {n : Nat} {U : Nat → Bool} (h : Tk s n U) (m : Nat) (x : ByteArray) (hm : 0 < m) (hx : x.size = 256) : Tk { s with now := s.now.set m x } n U :=
  ⟨h.ov, by rw [← h.len]; exact List.length_set .., h.l0, h.l1, sizes_set h.sz hx, fun i hi hin => by
    show isU (s.now.set m x) i = _
    rw [isU_set _ _ _ _ hm]
    exact h.us i hi hin⟩
theorem Tk.congr {s : Sw} {n : Nat} {U V : Nat → Bool} (h : Tk s n U) (hv : ∀ i, 0 < i → i < n → U i = V i) : Tk s n V := ⟨h.ov, h.len, h.l0, h.l1, h.sz, fun i hi hin => by rw [h.us i hi hin, hv i hi hin]⟩
/-- The lowest one is taken. -/
theorem Tk.take {s : Sw} {n : Nat} {U : Nat → Bool} (h : Tk s n U) (m : Nat) (Z : ByteArray) (hm : 0 < m) (hmn : m < n) (hU : U m = false) (hl : ∀ i, 0 < i → i < m → U i = true) (hZ : Z.size = 256) :
    s.takeE = ((m : Int), 0) ∧ Tk (s.take Z) n (fun i => i == m || U i) := by
  have hf : s.free = some m := by
    unfold Sw.free
    rw [h.len]
    exact lowest_some _ _ _ _ hm (by omega) (fun i hi him => by rw [h.us i hi (by omega)]; exact hl i hi him) (by rw [h.us m hm hmn]; exact hU)
  refine ⟨by unfold Sw.takeE; rw [h.ov, hf]; rfl, ?_⟩
  have e : s.take Z = { s with now := (turnL s.now m).set m Z } := by unfold Sw.take; rw [h.ov, hf]; rfl
  rw [e]
  refine ((h.turn m hm hmn).put m Z hm hZ).congr (fun i hi hin => ?_)
  by_cases hi' : m = i
  · subst hi'
    simp [hU]
  · have : (i == m) = false := by simpa using fun e => hi' e.symm
    simp [hi', this]
/-- All are used. -/
theorem Tk.full {s : Sw} {n : Nat} {U : Nat → Bool} (h : Tk s n U) (Z : ByteArray) (hl : ∀ i, 0 < i → i < n → U i = true) : s.takeE = (0, 8) ∧ s.take Z = s ∧ s.usedN = n := by
  have hf : s.free = none := by
    unfold Sw.free
    rw [h.len]
    exact lowest_none _ _ _ (fun i hi hin => by rw [h.us i hi (by omega)]; exact hl i hi (by omega))
  refine ⟨by unfold Sw.takeE; rw [h.ov, hf]; rfl, by unfold Sw.take; rw [h.ov, hf]; rfl, ?_⟩
  unfold Sw.usedN
  rw [h.ov, h.len]
  have e : (List.range n).filter (isU s.now) = List.range n := List.filter_eq_self.2 (fun i hi => by
    have hin := List.mem_range.1 hi
    by_cases h0 : i = 0
    · subst h0; rfl
    · rw [h.us i (by omega) hin]; exact hl i (by omega) hin)
  simp [e]
theorem Tk.drop {s : Sw} {n : Nat} {U : Nat → Bool} (h : Tk s n U) (z : Int) (hz : 0 < z) (hzn : z < n) (hU : U z.toNat = true) : s.dropE z = 0 ∧ Tk (s.drop z) n (fun i => !(i == z.toNat) && U i) := by
  have ht : thereS s.now z = true := by
    unfold thereS
    rw [h.len, h.us z.toNat (by omega) (by omega), hU]
    simp [hz, hzn]
  have hE : s.dropE z = 0 := by unfold Sw.dropE; rw [h.ov, ht]; rfl
  refine ⟨hE, ?_⟩
  have e : s.drop z = { s with now := turnL s.now z.toNat } := by unfold Sw.drop; rw [if_pos hE]
  rw [e]
  refine (h.turn z.toNat (by omega) (by omega)).congr (fun i hi hin => ?_)
  by_cases hi' : z.toNat = i
  · subst hi'
    simp [hU]
  · have : (i == z.toNat) = false := by simpa using fun e => hi' e.symm
    simp [hi', this]
theorem Tk.drop_no {s : Sw} {n : Nat} {U : Nat → Bool} (h : Tk s n U) (z : Int) (hz : ¬ (0 < z ∧ z < n)) : s.dropE z = 7 ∧ s.drop z = s := by
  have ht : thereS s.now z = false := by
    unfold thereS
    rw [h.len]
    simp [hz]
  have hE : s.dropE z = 7 := by unfold Sw.dropE; rw [h.ov, ht]; rfl
  exact ⟨hE, by unfold Sw.drop; rw [hE]; rfl⟩
/-- Behind steps that neither commit nor go back: what was noted is there still. -/
structure Sw.From (s t : Sw) : Prop where
  base : t.base = s.base
  over : t.over = s.over
  notes : ∃ m, t.notes = s.notes ++ m
theorem Sw.From.refl (s : Sw) : s.From s := ⟨rfl, rfl, [], by simp⟩
theorem Sw.From.trans {s t u : Sw} (h : s.From t) (h' : t.From u) : s.From u := by
  obtain ⟨m, hm⟩ := h.notes
  obtain ⟨m', hm'⟩ := h'.notes
  exact ⟨h'.base.trans h.base, h'.over.trans h.over, m ++ m', by rw [hm', hm, List.append_assoc]⟩
theorem Sw.From.now (s : Sw) (l : List ByteArray) : s.From { s with now := l } := ⟨rfl, rfl, [], by simp⟩
theorem from_write (s : Sw) (z : Int) (x : ByteArray) : s.From (s.write z x) := by unfold Sw.write; split; exact .now _ _; exact .refl _
theorem from_take (s : Sw) (Z : ByteArray) : s.From (s.take Z) := by
  unfold Sw.take
  split
  · exact .refl _
  · split
    · exact .now _ _
    · exact .refl _
theorem from_drop (s : Sw) (z : Int) : s.From (s.drop z) := by unfold Sw.drop; split; exact .now _ _; exact .refl _
theorem from_setHead (s : Sw) (x : ByteArray) : s.From (s.setHead x) := by unfold Sw.setHead; split; exact .now _ _; exact .refl _
theorem from_save (s : Sw) : s.From s.save := by unfold Sw.save; split; exact .refl _; exact ⟨rfl, rfl, [s.now], rfl⟩
/-- What goes back is as it was noted. -/
theorem back_from {s t : Sw} (ho : s.over = false) (h : s.save.From t) : t.backE s.saveN = 0 ∧ (t.back s.saveN).now = s.now ∧ (t.back s.saveN).base = s.base ∧ (t.back s.saveN).over = false := by
  have e1 : s.save = { s with notes := s.notes ++ [s.now] } := by unfold Sw.save; rw [ho]; rfl
  have e2 : s.saveN = (s.notes.length : Int) := by unfold Sw.saveN; rw [ho]; rfl
  rw [e1] at h
  obtain ⟨m, hm⟩ := h.notes
  have hm' : t.notes = s.notes ++ [s.now] ++ m := hm
  have hto : t.over = false := by rw [h.over]; exact ho
  have hE : t.backE s.saveN = 0 := by
    unfold Sw.backE
    rw [hto, e2, hm']
    rw [if_neg (by simp), if_pos ⟨by omega, by simp only [List.length_append, List.length_cons, List.length_nil]; omega⟩]
  refine ⟨hE, ?_, ?_, ?_⟩
  · unfold Sw.back
    rw [if_pos hE, e2]
    show t.notes.getD (Int.toNat _) [] = _
    rw [hm', Int.toNat_natCast, List.getD_eq_getElem?_getD]
    simp
  · unfold Sw.back
    rw [if_pos hE]
    exact h.base
  · unfold Sw.back
    rw [if_pos hE]
    exact hto

end Go.Proofs.YtmnedhlgplkfhaaGreat
