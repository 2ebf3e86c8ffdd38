/- A piece of work as the program keeps it: pages, and of each note what was changed behind it; held against the document's: plain mathematics, nothing of the program. Conditions: those that each theorem states. -/
import Derived.Test.YtmnedhlgplkfhaaGreatJS1
import Derived.Test.YtmnedhlgplkfhaaGreatJP1
namespace Go.Proofs.YtmnedhlgplkfhaaGreat
set_option linter.unusedVariables false

/-- What the changes l bring back; whether one of them is the page's; what goes back to a note. -/
def undoL (P : List ByteArray) (l : List Chg) : List ByteArray := l.foldl (fun P c => P.set c.page.toNat c.data) P
def namesB (l : List Chg) (n : Nat) : Bool := l.any (fun c => c.page == (n : Int))
def backTo (P : List ByteArray) (NL : List (List Chg)) (k : Nat) : List ByteArray := (NL.drop k).foldr (fun l P => undoL P l) P
theorem undoL_len (l : List Chg) : ∀ P, (undoL P l).length = P.length := by
  induction l with
  | nil => intro P; rfl
  | cons c l ih => intro P; show (undoL _ l).length = _; rw [ih, List.length_set]
theorem backTo_len (P : List ByteArray) (NL : List (List Chg)) (k : Nat) : (backTo P NL k).length = P.length := by
  unfold backTo
  generalize NL.drop k = M
  induction M with
  | nil => rfl
  | cons l M ih => show (undoL _ l).length = _; rw [undoL_len]; exact ih
theorem namesB_cons (c : Chg) (l : List Chg) (n : Nat) : namesB (c :: l) n = (c.page == (n : Int) || namesB l n) := by simp [namesB]
theorem undo_named (l : List Chg) (n : Nat) (s : ByteArray) : ∀ P, namesB l n = true → undoL (P.set n s) l = undoL P l := by
  induction l with
  | nil => intro P h; simp [namesB] at h
  | cons c l ih =>
    intro P h
    show undoL ((P.set n s).set c.page.toNat c.data) l = undoL (P.set c.page.toNat c.data) l
    by_cases he : c.page.toNat = n
    · rw [he, List.set_set]
    · rw [List.set_comm _ _ (fun e => he e.symm)]
      refine ih _ ?_
      rw [namesB_cons] at h
      have : (c.page == (n : Int)) = false := by
        have h2 : c.page ≠ (n : Int) := fun e => he (by rw [e, Int.toNat_natCast])
        simpa using h2
      rw [this, Bool.false_or] at h
      exact h
theorem names_ne {c : Chg} {l : List Chg} {n : Nat} (h0 : 0 ≤ c.page) (h : namesB (c :: l) n = false) : n ≠ c.page.toNat ∧ namesB l n = false := by
  rw [namesB_cons, Bool.or_eq_false_iff] at h
  refine ⟨fun e => ?_, h.2⟩
  have h2 : c.page ≠ (n : Int) := by simpa using h.1
  omega
theorem undo_apart (l : List Chg) (n : Nat) (s : ByteArray) (h0 : ∀ c ∈ l, 0 ≤ c.page) : ∀ P, namesB l n = false → undoL (P.set n s) l = (undoL P l).set n s := by
  induction l with
  | nil => intro P h; rfl
  | cons c l ih =>
    intro P h
    obtain ⟨h1, h2⟩ := names_ne (h0 c List.mem_cons_self) h
    show undoL ((P.set n s).set c.page.toNat c.data) l = (undoL (P.set c.page.toNat c.data) l).set n s
    rw [List.set_comm _ _ h1]
    exact ih (fun c hc => h0 c (List.mem_cons_of_mem _ hc)) _ h2
theorem undo_at (l : List Chg) (n : Nat) (h0 : ∀ c ∈ l, 0 ≤ c.page) : ∀ P, namesB l n = false → (undoL P l)[n]? = P[n]? := by
  induction l with
  | nil => intro P h; rfl
  | cons c l ih =>
    intro P h
    obtain ⟨h1, h2⟩ := names_ne (h0 c List.mem_cons_self) h
    show (undoL (P.set c.page.toNat c.data) l)[n]? = _
    rw [ih (fun c hc => h0 c (List.mem_cons_of_mem _ hc)) _ h2, List.getElem?_set, if_neg (fun e => h1 e.symm)]
theorem set_same (P : List ByteArray) (n : Nat) (x : ByteArray) (h : P[n]? = some x) : P.set n x = P := by
  refine List.ext_getElem? (fun i => ?_)
  rw [List.getElem?_set]
  by_cases e : n = i
  · subst e
    rw [if_pos rfl, h, if_pos (List.getElem?_eq_some_iff.1 h).1]
  · rw [if_neg e]
/-- A page is changed: what becomes of the notes. -/
def lastC (NL : List (List Chg)) : List Chg := NL.getD (NL.length - 1) []
def chgN (P : List ByteArray) (NL : List (List Chg)) (n : Nat) : List (List Chg) := if NL.length = 0 then NL else if namesB (lastC NL) n then NL else NL.set (NL.length - 1) (lastC NL ++ [⟨(n : Int), P.getD n ⟨#[]⟩⟩])
theorem chgN_len (P : List ByteArray) (NL : List (List Chg)) (n : Nat) : (chgN P NL n).length = NL.length := by
  unfold chgN
  split
  · rfl
  · split
    · rfl
    · exact List.length_set ..
theorem lastC_mem {NL : List (List Chg)} (h : NL.length ≠ 0) : lastC NL ∈ NL := by
  unfold lastC
  rw [List.getD_eq_getElem?_getD, List.getElem?_eq_getElem (by omega)]
  exact List.getElem_mem _
theorem chgN_mem {P : List ByteArray} {NL : List (List Chg)} {n : Nat} {l : List Chg} (h : l ∈ chgN P NL n) : l ∈ NL ∨ (NL.length ≠ 0 ∧ l = lastC NL ++ [⟨(n : Int), P.getD n ⟨#[]⟩⟩]) := by
  unfold chgN at h
  split at h
  · exact .inl h
  · split at h
    · exact .inl h
    · rcases List.mem_or_eq_of_mem_set h with h | h
      · exact .inl h
      · exact .inr ⟨by assumption, h⟩
theorem snoc_of {NL : List (List Chg)} (h : NL.length ≠ 0) : ∃ M, NL = M ++ [lastC NL] ∧ M.length = NL.length - 1 := by
  refine ⟨NL.take (NL.length - 1), ?_, by rw [List.length_take]; omega⟩
  have h1 : NL.length - 1 < NL.length := by omega
  have : lastC NL = NL[NL.length - 1] := by
    unfold lastC
    rw [List.getD_eq_getElem?_getD, List.getElem?_eq_getElem h1]
    rfl
  rw [this, ← List.take_succ_eq_append_getElem h1, Nat.sub_add_cancel (by omega), List.take_length]
theorem backTo_snoc (P : List ByteArray) (M : List (List Chg)) (l : List Chg) (k : Nat) (hk : k ≤ M.length) : backTo P (M ++ [l]) k = backTo (undoL P l) M k := by
  unfold backTo
  rw [List.drop_append_of_le_length hk, List.foldr_append]
  rfl
theorem backTo_chg (P : List ByteArray) (NL : List (List Chg)) (n : Nat) (s : ByteArray) (k : Nat) (hn : n < P.length) (h0 : ∀ l ∈ NL, ∀ c ∈ l, 0 ≤ c.page) (hk : k < NL.length) : backTo (P.set n s) (chgN P NL n) k = backTo P NL k := by
  have hne : NL.length ≠ 0 := by omega
  have hl := h0 _ (lastC_mem hne)
  obtain ⟨M, hM, hML⟩ := snoc_of hne
  unfold chgN
  rw [if_neg hne]
  generalize lastC NL = l at hl hM
  subst hM
  have hkM : k ≤ M.length := by simp at hk; omega
  have hl1 : (M ++ [l]).length - 1 = M.length := by simp
  rw [hl1]
  cases hnm : namesB l n with
  | true =>
    rw [if_pos rfl, backTo_snoc _ _ _ _ hkM, backTo_snoc _ _ _ _ hkM, undo_named _ _ _ _ hnm]
  | false =>
    have e : (M ++ [l]).set M.length (l ++ [⟨(n : Int), P.getD n ⟨#[]⟩⟩]) = M ++ [l ++ [⟨(n : Int), P.getD n ⟨#[]⟩⟩]] := by
      rw [List.set_append_right _ _ (Nat.le_refl _)]
      simp
    rw [if_neg (by simp), e, backTo_snoc _ _ _ _ hkM, backTo_snoc _ _ _ _ hkM]
    have e2 : undoL (P.set n s) (l ++ [⟨(n : Int), P.getD n ⟨#[]⟩⟩]) = undoL P l := by
      have : undoL (P.set n s) (l ++ [⟨(n : Int), P.getD n ⟨#[]⟩⟩]) = (undoL (P.set n s) l).set n (P.getD n ⟨#[]⟩) := by
        unfold undoL
        rw [List.foldl_append]
        rfl
      rw [this, undo_apart _ _ _ hl _ hnm, List.set_set]
      refine set_same _ _ _ ?_
      rw [undo_at _ _ hl _ hnm, List.getD_eq_getElem?_getD, List.getElem?_eq_getElem hn]
      rfl
    rw [e2]
theorem backTo_len_self (P : List ByteArray) (NL : List (List Chg)) : backTo P NL NL.length = P := by
  unfold backTo
  rw [List.drop_length]
  rfl
theorem backTo_nil (P : List ByteArray) (NL : List (List Chg)) (k : Nat) (hk : k ≤ NL.length) : backTo P (NL ++ [[]]) k = backTo P NL k := by
  rw [backTo_snoc _ _ _ _ hk]
  rfl
theorem backTo_back (P : List ByteArray) (NL : List (List Chg)) (j k : Nat) (hj : j ≤ k) (hk : k ≤ NL.length) : backTo (backTo P NL k) (NL.take k) j = backTo P NL j := by
  unfold backTo
  rw [← List.foldr_append]
  congr 1
  have : NL.drop j = (NL.take k ++ NL.drop k).drop j := by rw [List.take_append_drop]
  rw [this, List.drop_append_of_le_length (by rw [List.length_take]; omega)]
/-- One note more is gone back. -/
theorem backTo_one (P : List ByteArray) (NL : List (List Chg)) (k : Nat) (hk : k < NL.length) : backTo P NL k = undoL (backTo P NL (k + 1)) NL[k] := by
  unfold backTo
  rw [List.drop_eq_getElem_cons hk]
  rfl
/-- The program's pages tell as much as the document's: those that are used are the same. -/
structure Agr (P Q : List ByteArray) : Prop where
  len : P.length = Q.length
  us : ∀ i, i < Q.length → isU Q i = true → P.getD i ⟨#[]⟩ = Q.getD i ⟨#[]⟩
theorem Agr.p0 {P Q : List ByteArray} (h : Agr P Q) (h0 : 0 < Q.length) : pg0 P = pg0 Q := h.us 0 h0 rfl
theorem Agr.isU {P Q : List ByteArray} (h : Agr P Q) (h0 : 0 < Q.length) (i : Nat) : Go.Proofs.YtmnedhlgplkfhaaGreat.isU P i = Go.Proofs.YtmnedhlgplkfhaaGreat.isU Q i := by
  unfold Go.Proofs.YtmnedhlgplkfhaaGreat.isU
  rw [h.p0 h0]
theorem getD_set (l : List ByteArray) (n i : Nat) (x d : ByteArray) (hn : n < l.length) : (l.set n x).getD i d = if n = i then x else l.getD i d := by
  rw [List.getD_eq_getElem?_getD, List.getD_eq_getElem?_getD, List.getElem?_set]
  by_cases e : n = i
  · rw [if_pos e, if_pos e, if_pos (by omega)]; rfl
  · rw [if_neg e, if_neg e]
theorem Agr.set {P Q : List ByteArray} (h : Agr P Q) (n : Nat) (x : ByteArray) (hn : n < Q.length) (hu : ∀ i, i < Q.length → i ≠ n → Go.Proofs.YtmnedhlgplkfhaaGreat.isU (Q.set n x) i = true → Go.Proofs.YtmnedhlgplkfhaaGreat.isU Q i = true) : Agr (P.set n x) (Q.set n x) := by
  refine ⟨by rw [List.length_set, List.length_set]; exact h.len, fun i hi hiu => ?_⟩
  rw [List.length_set] at hi
  rw [getD_set _ _ _ _ _ (by rw [h.len]; exact hn), getD_set _ _ _ _ _ hn]
  by_cases e : n = i
  · rw [if_pos e, if_pos e]
  · rw [if_neg e, if_neg e]
    exact h.us i hi (hu i hi (fun e' => e e'.symm) hiu)
/-- A page is written. -/
theorem Agr.put {P Q : List ByteArray} (h : Agr P Q) (n : Nat) (x : ByteArray) (hn : n < Q.length) (h0 : 0 < n) : Agr (P.set n x) (Q.set n x) := h.set n x hn (fun i _ _ hi => by rw [isU_set _ _ _ _ h0] at hi; exact hi)
/-- A page is dropped; one is taken. -/
theorem Agr.drop {P Q : List ByteArray} (h : Agr P Q) (n : Nat) (h0 : 0 < Q.length) (hs : (pg0 Q).size = 256) (hn : n < 160) (hu : Go.Proofs.YtmnedhlgplkfhaaGreat.isU Q n = true) : Agr (turnL P n) (turnL Q n) := by
  unfold turnL
  rw [h.p0 h0]
  refine h.set 0 _ h0 (fun i hi hi0 hiu => ?_)
  have := isU_turn (l := Q) (n := n) (m := i) h0 hs (by omega) (by omega)
  unfold turnL at this
  rw [this] at hiu
  by_cases e : n = i
  · subst e
    exact hu
  · rw [if_neg e] at hiu
    exact hiu
theorem Agr.take {P Q : List ByteArray} (h : Agr P Q) (n : Nat) (Z : ByteArray) (h0 : 0 < Q.length) (hs : (pg0 Q).size = 256) (hn : n < Q.length) (hn1 : 0 < n) (h160 : Q.length ≤ 160) : Agr ((turnL P n).set n Z) ((turnL Q n).set n Z) := by
  have hl : (turnL Q n).length = Q.length := turnL_len Q n
  have hlP : (turnL P n).length = Q.length := by rw [turnL_len, h.len]
  refine ⟨by rw [List.length_set, List.length_set, hl, hlP], fun i hi hiu => ?_⟩
  rw [List.length_set, hl] at hi
  rw [isU_set _ _ _ _ hn1] at hiu
  rw [getD_set _ _ _ _ _ (by omega), getD_set _ _ _ _ _ (by omega)]
  by_cases e : n = i
  · rw [if_pos e, if_pos e]
  · rw [if_neg e, if_neg e]
    unfold turnL at hiu ⊢
    rw [getD_set _ _ _ _ _ (by rw [h.len]; exact h0), getD_set _ _ _ _ _ h0, h.p0 h0]
    by_cases e0 : 0 = i
    · rw [if_pos e0, if_pos e0]
    · rw [if_neg e0, if_neg e0]
      have := isU_turn (l := Q) (n := n) (m := i) h0 hs (by omega) (by omega)
      unfold turnL at this
      rw [this, if_neg e] at hiu
      exact h.us i hi hiu
theorem bit_head (p x : ByteArray) (n : Nat) (hp : p.size = 256) (hn : n < 160) : bitOf (headP p x) n = bitOf p n := by
  have e : byteAt (headP p x) (n / 8) = byteAt p (n / 8) := by
    unfold byteAt headP
    have hl : p.data.toList.length = 256 := by rw [Array.length_toList]; exact hp
    rw [List.getD_eq_getElem?_getD, List.getD_eq_getElem?_getD]
    show (p.data.toList.take 20 ++ x.data.toList ++ _)[n / 8]?.getD 0 = _
    rw [List.append_assoc, List.getElem?_append_left (by rw [List.length_take]; omega), List.getElem?_take, if_pos (by omega)]
  unfold bitOf
  rw [e]
/-- The head is set. -/
theorem Agr.head {P Q : List ByteArray} (h : Agr P Q) (x : ByteArray) (h0 : 0 < Q.length) (hs : (pg0 Q).size = 256) (h160 : Q.length ≤ 160) : Agr (P.set 0 (headP (pg0 P) x)) (Q.set 0 (headP (pg0 Q) x)) := by
  rw [h.p0 h0]
  refine h.set 0 _ h0 (fun i hi hi0 hiu => ?_)
  have e : pg0 (Q.set 0 (headP (pg0 Q) x)) = headP (pg0 Q) x := by
    unfold pg0
    rw [getD_set _ _ _ _ _ h0, if_pos rfl]
  unfold Go.Proofs.YtmnedhlgplkfhaaGreat.isU at hiu ⊢
  rw [e, bit_head _ _ _ hs (by omega)] at hiu
  exact hiu
/-- The notes go back to the document's. -/
structure AgN (P : List ByteArray) (NL : List (List Chg)) (S : Sw) : Prop where
  n : NL.length = S.notes.length
  b : ∀ k, k < NL.length → Agr (backTo P NL k) (S.notes.getD k [])
  pg : ∀ l ∈ NL, ∀ c ∈ l, 0 ≤ c.page ∧ c.page < (P.length : Int)
  sz : ∀ l ∈ NL, ∀ c ∈ l, c.data.size ≤ 256
theorem AgN.chg {P : List ByteArray} {NL : List (List Chg)} {S : Sw} (h : AgN P NL S) (n : Nat) (s : ByteArray) (hn : n < P.length) (hz : (P.getD n ⟨#[]⟩).size ≤ 256) : AgN (P.set n s) (chgN P NL n) S := by
  refine ⟨by rw [chgN_len]; exact h.n, fun k hk => ?_, fun l hl c hc => ?_, fun l hl c hc => ?_⟩
  · rw [chgN_len] at hk
    rw [backTo_chg P NL n s k hn (fun l hl c hc => (h.pg l hl c hc).1) hk]
    exact h.b k hk
  · rw [List.length_set]
    rcases chgN_mem hl with h1 | ⟨hne, h1⟩
    · exact h.pg l h1 c hc
    · rw [h1] at hc
      rcases List.mem_append.1 hc with h2 | h2
      · exact h.pg _ (lastC_mem hne) c h2
      · have : c = ⟨(n : Int), P.getD n ⟨#[]⟩⟩ := by simpa using h2
        rw [this]
        exact ⟨by show (0 : Int) ≤ (n : Int); omega, by show (n : Int) < _; omega⟩
  · rcases chgN_mem hl with h1 | ⟨hne, h1⟩
    · exact h.sz l h1 c hc
    · rw [h1] at hc
      rcases List.mem_append.1 hc with h2 | h2
      · exact h.sz _ (lastC_mem hne) c h2
      · have : c = ⟨(n : Int), P.getD n ⟨#[]⟩⟩ := by simpa using h2
        rw [this]
        exact hz
/-- The program's piece of work beside the document's. -/
structure Ag (P : List ByteArray) (NL : List (List Chg)) (S : Sw) : Prop where
  a : Agr P S.now
  g : AgN P NL S
  l0 : 0 < S.now.length
  l1 : S.now.length ≤ 160
  sz : ∀ x ∈ S.now, x.size = 256
  ps : ∀ x ∈ P, x.size ≤ 256
  bl : S.base.length = S.now.length
  nt : ∀ q ∈ S.notes, q.length = S.base.length ∧ ∀ x ∈ q, x.size = 256
theorem Ag.p0 {P : List ByteArray} {NL : List (List Chg)} {S : Sw} (h : Ag P NL S) : pg0 P = pg0 S.now := h.a.p0 h.l0
theorem Ag.s0 {P : List ByteArray} {NL : List (List Chg)} {S : Sw} (h : Ag P NL S) : (pg0 S.now).size = 256 := pg0_size' h.l0 h.sz
theorem Ag.sP {P : List ByteArray} {NL : List (List Chg)} {S : Sw} (h : Ag P NL S) : (pg0 P).size = 256 := by rw [h.p0]; exact h.s0
theorem Ag.isU {P : List ByteArray} {NL : List (List Chg)} {S : Sw} (h : Ag P NL S) (i : Nat) : Go.Proofs.YtmnedhlgplkfhaaGreat.isU P i = Go.Proofs.YtmnedhlgplkfhaaGreat.isU S.now i := h.a.isU h.l0 i
theorem getD_size {P : List ByteArray} (h : ∀ x ∈ P, x.size ≤ 256) (n : Nat) : (P.getD n ⟨#[]⟩).size ≤ 256 := by
  rw [List.getD_eq_getElem?_getD]
  cases e : P[n]? with
  | none => exact Nat.zero_le _
  | some x => exact h x (List.mem_of_getElem? e)
theorem psizes_set {l : List ByteArray} {n : Nat} {x : ByteArray} (hs : ∀ y ∈ l, y.size ≤ 256) (hx : x.size ≤ 256) : ∀ y ∈ l.set n x, y.size ≤ 256 := fun y hy => by
  rcases List.mem_or_eq_of_mem_set hy with h | h
  · exact hs y h
  · rw [h]; exact hx
theorem Ag.chg {P : List ByteArray} {NL : List (List Chg)} {S : Sw} (h : Ag P NL S) (n : Nat) (s : ByteArray) (now : List ByteArray) (hn : n < P.length) (hs : s.size ≤ 256) (ha : Agr (P.set n s) now) (hz : ∀ x ∈ now, x.size = 256) : Ag (P.set n s) (chgN P NL n) { S with now := now } := by
  have hl : now.length = S.now.length := by rw [← ha.len, List.length_set, h.a.len]
  have hg := h.g.chg n s hn (getD_size h.ps n)
  exact ⟨ha, ⟨hg.n, hg.b, hg.pg, hg.sz⟩, by show 0 < now.length; rw [hl]; exact h.l0, by show now.length ≤ 160; rw [hl]; exact h.l1, hz, psizes_set h.ps hs, by show S.base.length = now.length; rw [hl]; exact h.bl, h.nt⟩
/-- A note is made. -/
theorem Ag.save {P : List ByteArray} {NL : List (List Chg)} {S : Sw} (h : Ag P NL S) : Ag P (NL ++ [[]]) { S with notes := S.notes ++ [S.now] } := by
  have hn := h.g.n
  refine ⟨h.a, ⟨by simp [hn], fun k hk => ?_, fun l hl c hc => ?_, fun l hl c hc => ?_⟩, h.l0, h.l1, h.sz, h.ps, h.bl, fun q hq => ?_⟩
  · have hk' : k ≤ NL.length := by simp at hk; omega
    rw [backTo_nil _ _ _ hk']
    show Agr _ ((S.notes ++ [S.now]).getD k [])
    rw [List.getD_eq_getElem?_getD]
    by_cases e : k = NL.length
    · subst e
      rw [backTo_len_self, hn]
      simp
      exact h.a
    · have := h.g.b k (by omega)
      rw [List.getD_eq_getElem?_getD] at this
      rw [List.getElem?_append_left (by omega)]
      exact this
  · rcases List.mem_append.1 hl with h1 | h1
    · exact h.g.pg l h1 c hc
    · have : l = [] := by simpa using h1
      subst this
      cases hc
  · rcases List.mem_append.1 hl with h1 | h1
    · exact h.g.sz l h1 c hc
    · have : l = [] := by simpa using h1
      subst this
      cases hc
  · rcases List.mem_append.1 hq with h1 | h1
    · exact h.nt q h1
    · have : q = S.now := by simpa using h1
      subst this
      exact ⟨h.bl.symm, h.sz⟩
theorem undo_ps (l : List Chg) (hl : ∀ c ∈ l, c.data.size ≤ 256) : ∀ P : List ByteArray, (∀ x ∈ P, x.size ≤ 256) → ∀ x ∈ undoL P l, x.size ≤ 256 := by
  induction l with
  | nil => intro P h; exact h
  | cons c l ih => intro P h; exact ih (fun c hc => hl c (List.mem_cons_of_mem _ hc)) _ (psizes_set h (hl c List.mem_cons_self))
theorem backTo_ps (P : List ByteArray) (NL : List (List Chg)) (k : Nat) (hP : ∀ x ∈ P, x.size ≤ 256) (hl : ∀ l ∈ NL, ∀ c ∈ l, c.data.size ≤ 256) : ∀ x ∈ backTo P NL k, x.size ≤ 256 := by
  unfold backTo
  have hM : ∀ l ∈ NL.drop k, ∀ c ∈ l, c.data.size ≤ 256 := fun l h => hl l (List.mem_of_mem_drop h)
  generalize NL.drop k = M at hM
  induction M with
  | nil => exact hP
  | cons l M ih => exact undo_ps l (hM l List.mem_cons_self) _ (ih (fun l h => hM l (List.mem_cons_of_mem _ h)))
/-- It goes back. -/
theorem Ag.back {P : List ByteArray} {NL : List (List Chg)} {S : Sw} (h : Ag P NL S) (k : Nat) (hk : k < NL.length) : Ag (backTo P NL k) (NL.take k ++ [[]]) { S with now := S.notes.getD k [], notes := S.notes.take (k + 1) } := by
  have hn := h.g.n
  have hb := h.g.b k hk
  have hm : S.notes.getD k [] ∈ S.notes := by
    rw [List.getD_eq_getElem?_getD, List.getElem?_eq_getElem (by omega)]
    exact List.getElem_mem _
  have hq := h.nt _ hm
  have hl := h.bl
  refine ⟨hb, ⟨?_, fun j hj => ?_, fun l hl' c hc => ?_, fun l hl' c hc => ?_⟩, ?_, ?_, hq.2, backTo_ps _ _ _ h.ps h.g.sz, hq.1.symm, fun q hq' => h.nt q (List.mem_of_mem_take hq')⟩
  · show (NL.take k ++ [[]]).length = (S.notes.take (k + 1)).length
    rw [List.length_append, List.length_take, List.length_take]
    simp
    omega
  · have hj' : j ≤ k := by rw [List.length_append, List.length_take] at hj; simp at hj; omega
    rw [backTo_nil _ _ _ (by rw [List.length_take]; omega), backTo_back P NL j k hj' (by omega)]
    show Agr _ ((S.notes.take (k + 1)).getD j [])
    have := h.g.b j (by omega)
    rw [List.getD_eq_getElem?_getD] at this ⊢
    rw [List.getElem?_take, if_pos (by omega)]
    exact this
  · rw [backTo_len]
    rcases List.mem_append.1 hl' with h1 | h1
    · exact h.g.pg l (List.mem_of_mem_take h1) c hc
    · have : l = [] := by simpa using h1
      subst this
      cases hc
  · rcases List.mem_append.1 hl' with h1 | h1
    · exact h.g.sz l (List.mem_of_mem_take h1) c hc
    · have : l = [] := by simpa using h1
      subst this
      cases hc
  · show 0 < (S.notes.getD k []).length
    rw [hq.1, hl]
    exact h.l0
  · show (S.notes.getD k []).length ≤ 160
    rw [hq.1, hl]
    exact h.l1

end Go.Proofs.YtmnedhlgplkfhaaGreat
