/- A pager's steps upon its device as a plain list, and what is there behind a crash amid them: plain mathematics. Conditions: those that each theorem states. -/
import Derived.Test.YtgfijbbibafdfaaGreatDSync
import Derived.Test.YtgfijbbibafdfaaGreatUMath
import Derived.Test.YtgfijbbibafdfaaGreatUJoin
namespace Go.Proofs.YtgfijbbibafdfaaGreat
open Go.RowKit
set_option linter.unusedVariables false

/-- A step: a sector is written, or all is made sure. -/
def Stp : Type := Option (Nat × List UInt8)
def Stp.wr (i : Nat) (x : List UInt8) : Stp := some (i, x)
def Stp.sy : Stp := none
theorem Stp.wr_inj {i j : Nat} {x y : List UInt8} (h : Stp.wr i x = Stp.wr j y) : i = j ∧ x = y := by
  have h1 : (i, x) = (j, y) := Option.some.inj h
  exact ⟨congrArg Prod.fst h1, congrArg Prod.snd h1⟩
theorem Stp.wr_sy {i : Nat} {x : List UInt8} (h : Stp.wr i x = Stp.sy) : False := by
  have h1 : (some (i, x) : Option (Nat × List UInt8)) = none := h
  cases h1
theorem Stp.split (s : Stp) : s = .sy ∨ ∃ i x, s = .wr i x := by
  unfold Stp at s
  rcases s with _ | ⟨i, x⟩
  · exact .inl rfl
  · exact .inr ⟨i, x, rfl⟩
/-- It writes a sector of T, whole. -/
def Stp.isW (T : Nat → Prop) (s : Stp) : Prop := match (s : Option (Nat × List UInt8)) with
  | some (i, x) => T i ∧ x.length = 64
  | none => False
def Dv.one (D : Dv) (s : Stp) : Dv := match (s : Option (Nat × List UInt8)) with
  | some (i, x) => { D.called with u := put D.u i x }
  | none => { D.called with s := D.at, u := fun _ => none }
/-- Steps in turn, up to the first that finds that the device stands still. -/
def Dv.go (D : Dv) : List Stp → Dv
  | [] => D
  | s :: l => if stillB D then D.called else (D.one s).go l
def Dv.goE (D : Dv) : List Stp → Int
  | [] => 0
  | s :: l => if stillB D then 9 else (D.one s).goE l
theorem goE_or (l : List Stp) : ∀ D : Dv, D.goE l = 0 ∨ D.goE l = 9 := by
  induction l with
  | nil => intro D; exact .inl rfl
  | cons s l ih =>
    intro D
    rw [Dv.goE]
    split
    · exact .inr rfl
    · exact ih _
theorem whole_self {x : List UInt8} (h : x.length = 64) : whole x = x := by
  unfold whole
  rw [List.take_append, List.take_of_length_le (by omega), h]
  simp
theorem write_go (D : Dv) (i : Nat) (x : List UInt8) (hi : i < D.n) (hx : x.length = 64) : D.write (i : Int) ⟨x.toArray⟩ = D.go [.wr i x] ∧ wrE D (i : Int) ⟨x.toArray⟩ = D.goE [.wr i x] := by
  have hh : hasB D.n (i : Int) = true := by simp [hasB]; omega
  have hs : (⟨x.toArray⟩ : ByteArray).size ≤ 64 := by show x.toArray.size ≤ 64; simp [hx]
  have hw : whole (⟨x.toArray⟩ : ByteArray).data.toList = x := by simpa using whole_self hx
  by_cases h : stillB D = true
  · have : wrE D (i : Int) ⟨x.toArray⟩ = 9 := by simp [wrE, h]
    refine ⟨?_, by rw [this]; simp [Dv.goE, h]⟩
    unfold Dv.write
    rw [this]
    simp [Dv.go, h]
  · have : wrE D (i : Int) ⟨x.toArray⟩ = 0 := by simp [wrE, h, hh, hs]
    refine ⟨?_, by rw [this]; simp [Dv.goE, h]⟩
    unfold Dv.write
    rw [this, if_pos rfl, hw]
    simp [Dv.go, h, Dv.one, Stp.wr]
theorem sync_go (D : Dv) : D.sync = D.go [.sy] ∧ syE D = D.goE [.sy] := by
  by_cases h : stillB D = true
  · exact ⟨by simp [Dv.sync, Dv.go, h], by simp [syE, Dv.goE, h]⟩
  · exact ⟨by simp [Dv.sync, Dv.go, Dv.one, Stp.sy, h], by simp [syE, Dv.goE, h]⟩
theorem go_append (l m : List Stp) : ∀ D : Dv, D.go (l ++ m) = if D.goE l = 0 then (D.go l).go m else D.go l := by
  induction l with
  | nil => intro D; simp [Dv.go, Dv.goE]
  | cons s l ih =>
    intro D
    rw [List.cons_append, Dv.go, Dv.go, Dv.goE]
    by_cases h : stillB D = true
    · simp [h]
    · simp only [h, if_false, Bool.false_eq_true]
      exact ih _
theorem goE_append (l m : List Stp) : ∀ D : Dv, D.goE (l ++ m) = if D.goE l = 0 then (D.go l).goE m else D.goE l := by
  induction l with
  | nil => intro D; simp [Dv.go, Dv.goE]
  | cons s l ih =>
    intro D
    rw [List.cons_append, Dv.goE, Dv.go, Dv.goE]
    by_cases h : stillB D = true
    · simp [h]
    · simp only [h, if_false, Bool.false_eq_true]
      exact ih _
theorem one_n (D : Dv) (s : Stp) : (D.one s).n = D.n ∧ (D.one s).c = D.c + 1 ∧ (D.one s).st = D.st ∧ (D.one s).f = D.f := by
  rcases s.split with rfl | ⟨i, x, rfl⟩ <;> exact ⟨rfl, rfl, rfl, rfl⟩
theorem go_n (l : List Stp) : ∀ D : Dv, (D.go l).n = D.n ∧ (D.go l).st = D.st ∧ (D.go l).f = D.f ∧ D.c ≤ (D.go l).c ∧ (D.go l).c ≤ D.c + l.length := by
  induction l with
  | nil => intro D; exact ⟨rfl, rfl, rfl, Int.le_refl _, by simp [Dv.go]⟩
  | cons s l ih =>
    intro D
    rw [Dv.go]
    split
    · refine ⟨rfl, rfl, rfl, ?_, ?_⟩
      · show D.c ≤ D.c + 1; omega
      · show D.c + 1 ≤ _; rw [List.length_cons]; omega
    · have h1 := ih (D.one s)
      have h2 := one_n D s
      rw [List.length_cons]
      exact ⟨by rw [h1.1, h2.1], by rw [h1.2.1, h2.2.2.1], by rw [h1.2.2.1, h2.2.2.2], by omega, by omega⟩
theorem go_c (l : List Stp) : ∀ D : Dv, D.goE l = 0 → (D.go l).c = D.c + l.length := by
  induction l with
  | nil => intro D _; simp [Dv.go]
  | cons s l ih =>
    intro D h
    rw [Dv.goE] at h
    rw [Dv.go]
    split
    · rename_i hs; rw [if_pos hs] at h; cases h
    · rename_i hs
      rw [if_neg hs] at h
      have h1 := ih _ h
      have h2 := one_n D s
      rw [List.length_cons]
      omega
theorem goE_free (l : List Stp) : ∀ D : Dv, D.st = false → D.goE l = 0 := by
  induction l with
  | nil => intro D _; rfl
  | cons s l ih =>
    intro D h
    have hs : stillB D = false := by simp [stillB, h]
    rw [Dv.goE, hs]
    exact ih _ (by rw [(one_n D s).2.2.1, h])

/-- What sectors read behind writes. -/
def appS (S : Nat → List UInt8) (s : Stp) : Nat → List UInt8 := match (s : Option (Nat × List UInt8)) with
  | some (i, x) => upd S i x
  | none => S
def app (S : Nat → List UInt8) : List Stp → Nat → List UInt8
  | [] => S
  | s :: l => app (appS S s) l
theorem app_out (l : List Stp) : ∀ (S : Nat → List UInt8) (k : Nat), (∀ x, Stp.wr k x ∉ l) → app S l k = S k := by
  induction l with
  | nil => intro S k _; rfl
  | cons s l ih =>
    intro S k h
    have h' : ∀ x, Stp.wr k x ∉ l := fun x hx => h x (List.mem_cons_of_mem _ hx)
    rcases s.split with rfl | ⟨i, x, rfl⟩
    · rw [app, ih _ _ h']
      rfl
    · rw [app, ih _ _ h']
      have : k ≠ i := fun e => h x (by subst e; exact List.mem_cons_self)
      show upd S i x k = _
      simp [upd, this]
theorem app_in (l : List Stp) : ∀ (S : Nat → List UInt8) (k : Nat) (x : List UInt8), (∀ y, Stp.wr k y ∈ l → y = x) → (Stp.wr k x ∈ l ∨ S k = x) → app S l k = x := by
  induction l with
  | nil =>
    intro S k x _ h
    rcases h with h | h
    · cases h
    · exact h
  | cons s l ih =>
    intro S k x hu h
    have hu' : ∀ y, Stp.wr k y ∈ l → y = x := fun y hy => hu y (List.mem_cons_of_mem _ hy)
    rcases s.split with rfl | ⟨i, y, rfl⟩
    · rw [app]
      refine ih _ _ _ hu' ?_
      rcases h with h | h
      · rcases List.mem_cons.1 h with h | h
        · exact (Stp.wr_sy h).elim
        · exact .inl h
      · exact .inr h
    · rw [app]
      refine ih _ _ _ hu' ?_
      show _ ∨ upd S i y k = x
      by_cases e : k = i
      · subst e
        exact .inr (by rw [upd, if_pos rfl]; exact hu y List.mem_cons_self)
      · rcases h with h | h
        · rcases List.mem_cons.1 h with h | h
          · exact absurd (Stp.wr_inj h).1 e
          · exact .inl h
        · exact .inr (by rw [upd, if_neg e]; exact h)
theorem at_one (D : Dv) (i : Nat) (x : List UInt8) : (D.one (.wr i x)).at = upd D.at i x := by
  funext k
  unfold Dv.at Dv.one put upd Stp.wr
  by_cases e : k = i <;> simp [e, Dv.called]
theorem at_sy (D : Dv) : (D.one .sy).at = D.at := by
  funext k
  simp [Dv.at, Dv.one, Stp.sy]
theorem at_none {D : Dv} (hu : ∀ k, D.u k = none) : D.at = D.s := by
  funext k
  simp [Dv.at, hu]
/-- Whatever a list of steps leaves, a sector that it doesn't write reads as ahead. -/
theorem go_at_out (l : List Stp) : ∀ (D : Dv) (k : Nat), (∀ x, Stp.wr k x ∉ l) → (D.go l).at k = D.at k := by
  induction l with
  | nil => intro D k _; rfl
  | cons s l ih =>
    intro D k h
    have h' : ∀ x, Stp.wr k x ∉ l := fun x hx => h x (List.mem_cons_of_mem _ hx)
    rw [Dv.go]
    split
    · rfl
    · rw [ih _ _ h']
      rcases s.split with rfl | ⟨i, x, rfl⟩
      · rw [at_sy]
      · rw [at_one]
        have : k ≠ i := fun e => h x (by subst e; exact List.mem_cons_self)
        simp [upd, this]
theorem go_writes (T : Nat → Prop) (l : List Stp) : ∀ D : Dv, (∀ s ∈ l, s.isW T) → (D.go l).s = D.s ∧ (∀ k, ¬ T k → (D.go l).u k = D.u k) ∧ (D.goE l = 0 → (D.go l).at = app D.at l) := by
  induction l with
  | nil => intro D _; exact ⟨rfl, fun _ _ => rfl, fun _ => rfl⟩
  | cons s l ih =>
    intro D h
    have hs := h s List.mem_cons_self
    have h' : ∀ s ∈ l, s.isW T := fun s hs => h s (List.mem_cons_of_mem _ hs)
    rcases s.split with rfl | ⟨i, x, rfl⟩
    · exact False.elim hs
    · rw [Dv.go, Dv.goE]
      have hs1 : T i := hs.1
      split
      · exact ⟨rfl, fun _ _ => rfl, fun h => by cases h⟩
      · obtain ⟨h1, h2, h3⟩ := ih (D.one (.wr i x)) h'
        refine ⟨h1, fun k hk => ?_, fun he => ?_⟩
        · rw [h2 k hk]
          have : k ≠ i := fun e => hk (e ▸ hs1)
          simp [Dv.one, put, this, Stp.wr]
        · rw [h3 he, at_one]
          rfl

/-- What may be sure behind a crash. -/
def After (D : Dv) (S : Nat → List UInt8) : Prop := ∀ k, k < D.n → D.u k = none → S k = D.s k
/-- Writes of sectors of T, then Sync. -/
theorem phase (T : Nat → Prop) (l : List Stp) (D : Dv) (h : ∀ s ∈ l, s.isW T) (hu : ∀ k, D.u k = none) :
    (D.goE (l ++ [.sy]) = 0 → (D.go (l ++ [.sy])).s = app D.s l ∧ ∀ k, (D.go (l ++ [.sy])).u k = none) ∧
    (D.goE (l ++ [.sy]) ≠ 0 → ∀ S, After (D.go (l ++ [.sy])) S → ∀ k, k < D.n → ¬ T k → S k = D.s k) := by
  obtain ⟨h1, h2, h3⟩ := go_writes T l D h
  rw [goE_append, go_append]
  by_cases he : D.goE l = 0
  · rw [if_pos he, if_pos he]
    have ha := h3 he
    rw [at_none hu] at ha
    constructor
    · intro h0
      rw [Dv.goE] at h0
      rw [Dv.go]
      split at h0
      · cases h0
      · rename_i hs
        rw [if_neg hs]
        exact ⟨ha, fun k => rfl⟩
    · intro h0 S hS k hk hT
      rw [Dv.goE] at h0
      rw [Dv.go] at hS
      split at h0
      · rename_i hs
        rw [if_pos hs] at hS
        have := hS k (by show k < (D.go l).n; rw [(go_n l D).1]; exact hk) (by show (D.go l).u k = none; rw [h2 k hT]; exact hu k)
        rw [this]
        show (D.go l).s k = _
        rw [h1]
      · exact absurd rfl h0
  · rw [if_neg he, if_neg he]
    refine ⟨fun h0 => absurd h0 he, fun _ S hS k hk hT => ?_⟩
    rw [hS k (by rw [(go_n l D).1]; exact hk) (by rw [h2 k hT]; exact hu k), h1]

/-- Where a page, an image lies. -/
def placeN (p j : Nat) : Nat := 126 + 4 * p + j
def imageN (k j : Nat) : Nat := 2 + 4 * k + j
/-- A change. -/
structure Chg where
  page : Int
  data : ByteArray
def secL (x : ByteArray) (j : Nat) : List UInt8 := (cutAt x j).data.toList
theorem secL_len {x : ByteArray} (h : x.size = 256) {j : Nat} (hj : j < 4) : (secL x j).length = 64 := by
  unfold secL cutAt
  rw [Array.length_toList]
  show (x.extract (j * 64) ((j + 1) * 64)).size = 64
  rw [ByteArray.size_extract]
  omega
/-- The bytes of a sector, as a text. -/
def mkA (x : List UInt8) : ByteArray := ⟨x.toArray⟩
def says (x : List UInt8) : Bool := saysB (mkA x)
def dirE (x : List UInt8) : Int := rE (mkA x)
def dirL (x : List UInt8) : List Int := rL (mkA x)
/-- The pages are Q, and nothing is under way. -/
def Clean (n : Nat) (S : Nat → List UInt8) (Q : Nat → ByteArray) : Prop := says (S 0) = false ∧ ∀ p, p < n → ∀ j, j < 4 → S (placeN p j) = secL (Q p) j
/-- There is a journal that makes them Q. -/
structure Under (n : Nat) (S : Nat → List UInt8) (Q : Nat → ByteArray) (L : List Int) : Prop where
  e : dirE (S 1) = 0
  l : dirL (S 1) = L
  r : ∀ z ∈ L, 0 ≤ z ∧ z < n
  i : ∀ k (h : k < L.length), ∀ j, j < 4 → S (imageN k j) = secL (Q L[k].toNat) j
  o : ∀ p, p < n → (p : Int) ∉ L → ∀ j, j < 4 → S (placeN p j) = secL (Q p) j
/-- Recovering makes them Q. -/
def Rec (n : Nat) (S : Nat → List UInt8) (Q : Nat → ByteArray) : Prop := Clean n S Q ∨ (says (S 0) = true ∧ ∃ L, Under n S Q L)
theorem Under.same {n : Nat} {S S' : Nat → List UInt8} {Q : Nat → ByteArray} {L : List Int} (h : Under n S Q L) (hd : S' 1 = S 1) (hi : ∀ k, k < 31 → ∀ j, j < 4 → S' (imageN k j) = S (imageN k j))
    (ho : ∀ p, p < n → (p : Int) ∉ L → ∀ j, j < 4 → S' (placeN p j) = S (placeN p j)) : Under n S' Q L := by
  have hl : L.length ≤ 31 := by
    have h1 := h.l
    have h2 := (wE_ok (read_ok (s := mkA (S 1)) h.e).1).1
    unfold dirL at h1
    rw [h1] at h2
    exact h2
  exact ⟨by rw [hd]; exact h.e, by rw [hd]; exact h.l, h.r, fun k hk j hj => by rw [hi k (by omega) j hj]; exact h.i k hk j hj, fun p hp hn j hj => by rw [ho p hp hn j hj]; exact h.o p hp hn j hj⟩

/-- A page's writes. -/
def pgW (f : Nat → Nat) (x : ByteArray) : List Stp := (List.range 4).map fun j => .wr (f j) (secL x j)
def plW (l : List Chg) : List Stp := l.flatMap fun c => pgW (placeN c.page.toNat) c.data
def imW : Nat → List Chg → List Stp
  | _, [] => []
  | k, c :: l => pgW (imageN k) c.data ++ imW (k + 1) l
def jrW (l : List Chg) : List Stp := .wr 1 (wB (l.map Chg.page)) :: imW 0 l
def stW (l : List Chg) : List Stp := (plW l ++ [.sy]) ++ ([.wr 0 (markL false)] ++ [.sy])
def cmW (old new : List Chg) : List Stp := (jrW old ++ [.sy]) ++ (([.wr 0 (markL true)] ++ [.sy]) ++ stW new)
theorem mem_pgW {f : Nat → Nat} {x : ByteArray} {i : Nat} {y : List UInt8} : Stp.wr i y ∈ pgW f x ↔ ∃ j, j < 4 ∧ i = f j ∧ y = secL x j := by
  unfold pgW
  rw [List.mem_map]
  constructor
  · rintro ⟨j, hj, he⟩
    obtain ⟨rfl, rfl⟩ := Stp.wr_inj he
    exact ⟨j, by simpa using hj, rfl, rfl⟩
  · rintro ⟨j, hj, rfl, rfl⟩
    exact ⟨j, by simpa using hj, rfl⟩
theorem mem_plW {l : List Chg} {i : Nat} {y : List UInt8} : Stp.wr i y ∈ plW l ↔ ∃ c ∈ l, ∃ j, j < 4 ∧ i = placeN c.page.toNat j ∧ y = secL c.data j := by
  unfold plW
  rw [List.mem_flatMap]
  constructor
  · rintro ⟨c, hc, h⟩
    exact ⟨c, hc, mem_pgW.1 h⟩
  · rintro ⟨c, hc, h⟩
    exact ⟨c, hc, mem_pgW.2 h⟩
theorem mem_imW (l : List Chg) : ∀ (m i : Nat) (y : List UInt8), Stp.wr i y ∈ imW m l ↔ ∃ k, ∃ h : k < l.length, ∃ j, j < 4 ∧ i = imageN (m + k) j ∧ y = secL l[k].data j := by
  induction l with
  | nil => intro m i y; simp [imW]
  | cons c l ih =>
    intro m i y
    rw [imW, List.mem_append, mem_pgW, ih]
    constructor
    · rintro (⟨j, hj, rfl, rfl⟩ | ⟨k, hk, j, hj, rfl, rfl⟩)
      · exact ⟨0, by simp, j, hj, rfl, rfl⟩
      · refine ⟨k + 1, by simpa using hk, j, hj, ?_, rfl⟩
        congr 1
        omega
    · rintro ⟨k, hk, j, hj, rfl, rfl⟩
      rcases k with _ | k
      · exact .inl ⟨j, hj, rfl, rfl⟩
      · refine .inr ⟨k, by simpa using hk, j, hj, ?_, rfl⟩
        congr 1
        omega
theorem sy_pgW (f : Nat → Nat) (x : ByteArray) : Stp.sy ∉ pgW f x := by
  unfold pgW
  rw [List.mem_map]
  rintro ⟨j, _, he⟩
  exact Stp.wr_sy he
theorem sy_plW (l : List Chg) : Stp.sy ∉ plW l := by
  unfold plW
  rw [List.mem_flatMap]
  rintro ⟨c, _, h⟩
  exact sy_pgW _ _ h
theorem sy_imW (l : List Chg) : ∀ m, Stp.sy ∉ imW m l := by
  induction l with
  | nil => intro m; simp [imW]
  | cons c l ih =>
    intro m
    rw [imW, List.mem_append]
    rintro (h | h)
    · exact sy_pgW _ _ h
    · exact ih _ h
/-- Changes that may be. -/
structure okC (n : Nat) (l : List Chg) : Prop where
  p : ∀ c ∈ l, 0 ≤ c.page ∧ c.page < n
  d : ∀ c ∈ l, c.data.size = 256
  u : (l.map Chg.page).Nodup
  m : l.length ≤ 31
/-- The pages with changes made. -/
def withC (Q : Nat → ByteArray) (l : List Chg) : Nat → ByteArray := l.foldl (fun Q c => fun p => if (p : Int) = c.page then c.data else Q p) Q
theorem withC_out (l : List Chg) : ∀ (Q : Nat → ByteArray) (p : Nat), (∀ c ∈ l, c.page ≠ (p : Int)) → withC Q l p = Q p := by
  induction l with
  | nil => intro Q p _; rfl
  | cons c l ih =>
    intro Q p h
    show withC _ l p = _
    rw [ih _ _ (fun d hd => h d (List.mem_cons_of_mem _ hd))]
    have := h c List.mem_cons_self
    simp [Ne.symm this]
theorem withC_in (l : List Chg) : ∀ (Q : Nat → ByteArray) (p : Nat) (c : Chg), (∀ d ∈ l, d.page = (p : Int) → d = c) → (c ∈ l ∧ c.page = p ∨ Q p = c.data) → withC Q l p = c.data := by
  induction l with
  | nil =>
    intro Q p c _ h
    rcases h with h | h
    · cases h.1
    · exact h
  | cons d l ih =>
    intro Q p c hu h
    show withC _ l p = _
    refine ih _ _ _ (fun e he => hu e (List.mem_cons_of_mem _ he)) ?_
    by_cases e : (p : Int) = d.page
    · have := hu d List.mem_cons_self e.symm
      subst this
      exact .inr (by simp [e])
    · rcases h with ⟨h, hp⟩ | h
      · rcases List.mem_cons.1 h with h | h
        · subst h; exact absurd hp.symm e
        · exact .inl ⟨h, hp⟩
      · exact .inr (by simp [e, h])
theorem nodup_eq {l : List Chg} (h : (l.map Chg.page).Nodup) {c d : Chg} (hc : c ∈ l) (hd : d ∈ l) (he : c.page = d.page) : c = d := by
  obtain ⟨i, hi, rfl⟩ := List.getElem_of_mem hc
  obtain ⟨j, hj, rfl⟩ := List.getElem_of_mem hd
  have hp := List.pairwise_iff_getElem.1 h
  have hi' : i < (l.map Chg.page).length := by simpa using hi
  have hj' : j < (l.map Chg.page).length := by simpa using hj
  have e : (l.map Chg.page)[i] = (l.map Chg.page)[j] := by simpa using he
  rcases Nat.lt_trichotomy i j with hlt | hlt | hlt
  · exact absurd e (hp i j hi' hj' hlt)
  · subst hlt; rfl
  · exact absurd e.symm (hp j i hj' hi' hlt)
theorem withC_size {n : Nat} {Q : Nat → ByteArray} {l : List Chg} (hQ : ∀ p, (Q p).size = 256) (h : okC n l) : ∀ p, (withC Q l p).size = 256 := by
  intro p
  by_cases e : ∃ c ∈ l, c.page = (p : Int)
  · obtain ⟨c, hc, hp⟩ := e
    rw [withC_in l Q p c (fun d hd he => nodup_eq h.u hd hc (by rw [he, hp])) (.inl ⟨hc, hp⟩)]
    exact h.d c hc
  · rw [withC_out l Q p (fun c hc he => e ⟨c, hc, he⟩)]
    exact hQ p
theorem okC_wE {n : Nat} {l : List Chg} (hn : n ≤ 160) (h : okC n l) : wE (l.map Chg.page) = 0 := by
  have ho : okP (l.map Chg.page) = true := by
    unfold okP
    simp only [decide_eq_true_eq]
    refine ⟨fun z hz => ?_, h.u⟩
    obtain ⟨c, hc, rfl⟩ := List.mem_map.1 hz
    have := h.p c hc
    omega
  have hm : ¬ 31 < (l.map Chg.page).length := by have := h.m; rw [List.length_map]; omega
  unfold wE
  rw [if_neg hm, if_pos ho]

/-- Behind the pages' writes. -/
theorem app_plW {n : Nat} {l : List Chg} (h : okC n l) (S : Nat → List UInt8) {Q : Nat → ByteArray} (hS : ∀ p, p < n → (∀ c ∈ l, c.page ≠ (p : Int)) → ∀ j, j < 4 → S (placeN p j) = secL (Q p) j) :
    (∀ p, p < n → ∀ j, j < 4 → app S (plW l) (placeN p j) = secL (withC Q l p) j) ∧ ∀ k, k < 126 → app S (plW l) k = S k := by
  refine ⟨fun p hp j hj => ?_, fun k hk => app_out _ _ _ (fun x hx => ?_)⟩
  · by_cases e : ∃ c ∈ l, c.page = (p : Int)
    · obtain ⟨c, hc, hcp⟩ := e
      have hi : ∀ d ∈ l, d.page = (p : Int) → d = c := fun d hd he => nodup_eq h.u hd hc (by rw [he, hcp])
      rw [withC_in l Q p c hi (.inl ⟨hc, hcp⟩)]
      refine app_in _ _ _ _ (fun y hy => ?_) (.inl (mem_plW.2 ⟨c, hc, j, hj, by rw [hcp]; rfl, rfl⟩))
      obtain ⟨d, hd, j', hj', he, rfl⟩ := mem_plW.1 hy
      unfold placeN at he
      have hd0 := (h.p d hd).1
      have e1 : d.page.toNat = p ∧ j' = j := by omega
      have := hi d hd (by omega)
      rw [this, e1.2]
    · have hno : ∀ c ∈ l, c.page ≠ (p : Int) := fun c hc he => e ⟨c, hc, he⟩
      rw [withC_out l Q p hno, ← hS p hp hno j hj]
      refine app_out _ _ _ (fun x hx => ?_)
      obtain ⟨d, hd, j', hj', he, rfl⟩ := mem_plW.1 hx
      unfold placeN at he
      have hd0 := (h.p d hd).1
      exact hno d hd (by omega)
  · obtain ⟨d, hd, j', hj', he, rfl⟩ := mem_plW.1 hx
    unfold placeN at he
    omega
theorem plW_isW {n : Nat} {l : List Chg} (h : okC n l) : ∀ s ∈ plW l, s.isW (fun k => ∃ c ∈ l, ∃ j, j < 4 ∧ k = placeN c.page.toNat j) := by
  intro s hs
  rcases s.split with rfl | ⟨i, x, rfl⟩
  · exact absurd hs (sy_plW l)
  · obtain ⟨c, hc, j, hj, rfl, rfl⟩ := mem_plW.1 hs
    exact ⟨⟨c, hc, j, hj, rfl⟩, secL_len (h.d c hc) hj⟩
theorem mark_isW (b : Bool) : ∀ s ∈ [Stp.wr 0 (markL b)], s.isW (fun k => k = 0) := by
  intro s hs
  rw [List.mem_singleton] at hs
  subst hs
  exact ⟨rfl, whole_len _⟩
theorem says_yes : says (markL true) = true := by kernel_rfl
theorem says_no : says (markL false) = false := by kernel_rfl
/-- Making the pages sure as they are in l, ahead a journal that makes them Q. -/
theorem settle_pure (n : Nat) (D : Dv) (Q : Nat → ByteArray) (l : List Chg) (L : List Int) (hn : D.n = 126 + 4 * n) (hu : ∀ k, D.u k = none) (hy : says (D.s 0) = true) (hU : Under n D.s Q L)
    (h : okC n l) (hl : l.map Chg.page = L) :
    (D.goE (stW l) = 0 → Clean n (D.go (stW l)).s (withC Q l) ∧ ∀ k, (D.go (stW l)).u k = none) ∧
    (D.goE (stW l) ≠ 0 → ∀ S, After (D.go (stW l)) S → Rec n S Q ∨ Rec n S (withC Q l)) := by
  have hin : ∀ p : Nat, (p : Int) ∉ L → ∀ c ∈ l, c.page ≠ (p : Int) := fun p hp c hc he => hp (by rw [← hl, ← he]; exact List.mem_map_of_mem hc)
  have hU1 : ∀ S, (∀ k, k < D.n → (¬ ∃ c ∈ l, ∃ j, j < 4 ∧ k = placeN c.page.toNat j) → S k = D.s k) → Under n S Q L := by
    intro S hS
    refine hU.same (hS 1 (by omega) ?_) (fun k hk j hj => hS _ (by unfold imageN; omega) ?_) (fun p hp hpn j hj => hS _ (by unfold placeN; omega) ?_)
    · rintro ⟨c, _, j, _, he⟩; unfold placeN at he; omega
    · rintro ⟨c, _, j, _, he⟩; unfold placeN imageN at he; omega
    · rintro ⟨c, hc, j', hj', he⟩
      unfold placeN at he
      have := (h.p c hc).1
      exact hin p hpn c hc (by omega)
  obtain ⟨a1, a2⟩ := phase _ (plW l) D (plW_isW h) hu
  rw [stW, goE_append (plW l ++ [Stp.sy]), go_append (plW l ++ [Stp.sy])]
  by_cases he : D.goE (plW l ++ [.sy]) = 0
  · rw [if_pos he, if_pos he]
    obtain ⟨b1, b2⟩ := a1 he
    obtain ⟨c1, c2⟩ := app_plW h D.s (Q := Q) (fun p hp hno j hj => hU.o p hp (fun hm => by
      rw [← hl] at hm
      obtain ⟨c, hc, hcp⟩ := List.mem_map.1 hm
      exact hno c hc hcp) j hj)
    have hn2 := (go_n (plW l ++ [.sy]) D).1
    generalize D.go (plW l ++ [.sy]) = D2 at *
    have hU2 : Under n D2.s Q L := hU1 _ (fun k hk hno => by
      rw [b1]
      refine app_out _ _ _ (fun x hx => hno ?_)
      obtain ⟨c, hc, j, hj, e, _⟩ := mem_plW.1 hx
      exact ⟨c, hc, j, hj, e⟩)
    rw [← b1] at c1
    obtain ⟨d1, d2⟩ := phase _ _ D2 (mark_isW false) b2
    have hout : ∀ S : Nat → List UInt8, (∀ k, k < D2.n → ¬ k = 0 → S k = D2.s k) → Under n S Q L ∧ ∀ p, p < n → ∀ j, j < 4 → S (placeN p j) = secL (withC Q l p) j := by
      intro S hS
      refine ⟨hU2.same (hS 1 (by omega) (by omega)) (fun k hk j hj => hS _ (by unfold imageN; omega) (by unfold imageN; omega)) (fun p hp hpn j hj => hS _ (by unfold placeN; omega) (by unfold placeN; omega)), fun p hp j hj => ?_⟩
      rw [hS _ (by unfold placeN; omega) (by unfold placeN; omega)]
      exact c1 p hp j hj
    constructor
    · intro h0
      obtain ⟨f1, f2⟩ := d1 h0
      refine ⟨⟨?_, fun p hp j hj => ?_⟩, f2⟩
      · rw [f1]
        exact says_no
      · rw [f1]
        refine (hout _ (fun k _ hk => ?_)).2 p hp j hj
        show upd D2.s 0 _ k = _
        simp [upd, hk]
    · intro h0 S hS
      obtain ⟨g1, g2⟩ := hout S (d2 h0 S hS)
      cases hsy : says (S 0)
      · exact .inr (.inl ⟨hsy, g2⟩)
      · exact .inl (.inr ⟨hsy, L, g1⟩)
  · rw [if_neg he, if_neg he]
    refine ⟨fun h0 => absurd h0 he, fun _ S hS => .inl (.inr ⟨?_, L, hU1 S (a2 he S hS)⟩)⟩
    rw [a2 he S hS 0 (by omega) (by rintro ⟨c, _, j, _, e⟩; unfold placeN at e; omega)]
    exact hy
theorem jrW_isW {n : Nat} {l : List Chg} (hn : n ≤ 160) (h : okC n l) : ∀ s ∈ jrW l, s.isW (fun k => 1 ≤ k ∧ k < 126) := by
  intro s hs
  rcases List.mem_cons.1 hs with hs | hs
  · subst hs
    refine ⟨⟨Nat.le_refl _, by omega⟩, ?_⟩
    unfold wB
    rw [if_pos (okC_wE hn h)]
    exact whole_len _
  · rcases s.split with rfl | ⟨i, x, rfl⟩
    · exact absurd hs (sy_imW l 0)
    · obtain ⟨k, hk, j, hj, rfl, rfl⟩ := (mem_imW l 0 i x).1 hs
      have := h.m
      exact ⟨by unfold imageN; omega, secL_len (h.d _ (List.getElem_mem hk)) hj⟩
/-- What is there of the pages of changes. -/
def oldC (Q : Nat → ByteArray) (l : List Chg) : List Chg := l.map fun c => ⟨c.page, Q c.page.toNat⟩
theorem oldC_pages (Q : Nat → ByteArray) (l : List Chg) : (oldC Q l).map Chg.page = l.map Chg.page := by simp [oldC]
theorem oldC_ok {n : Nat} {Q : Nat → ByteArray} {l : List Chg} (hQ : ∀ p, (Q p).size = 256) (h : okC n l) : okC n (oldC Q l) := by
  refine ⟨fun c hc => ?_, fun c hc => ?_, by rw [oldC_pages]; exact h.u, by unfold oldC; rw [List.length_map]; exact h.m⟩
  · obtain ⟨d, hd, rfl⟩ := List.mem_map.1 hc
    exact h.p d hd
  · obtain ⟨d, hd, rfl⟩ := List.mem_map.1 hc
    exact hQ _
/-- A commit. -/
theorem commit_pure (n : Nat) (D : Dv) (Q : Nat → ByteArray) (l : List Chg) (hn : D.n = 126 + 4 * n) (hn2 : n ≤ 160) (hu : ∀ k, D.u k = none) (hC : Clean n D.s Q) (hQ : ∀ p, (Q p).size = 256) (h : okC n l) :
    (D.goE (cmW (oldC Q l) l) = 0 → Clean n (D.go (cmW (oldC Q l) l)).s (withC Q l) ∧ ∀ k, (D.go (cmW (oldC Q l) l)).u k = none) ∧
    (D.goE (cmW (oldC Q l) l) ≠ 0 → ∀ S, After (D.go (cmW (oldC Q l) l)) S → Rec n S Q ∨ Rec n S (withC Q l)) := by
  have ho := oldC_ok hQ h
  obtain ⟨a1, a2⟩ := phase _ (jrW (oldC Q l)) D (jrW_isW hn2 ho) hu
  rw [cmW, goE_append (jrW (oldC Q l) ++ [Stp.sy]), go_append (jrW (oldC Q l) ++ [Stp.sy])]
  by_cases he : D.goE (jrW (oldC Q l) ++ [.sy]) = 0
  · rw [if_pos he, if_pos he]
    obtain ⟨b1, b2⟩ := a1 he
    have hn3 := (go_n (jrW (oldC Q l) ++ [.sy]) D).1
    generalize D.go (jrW (oldC Q l) ++ [.sy]) = D2 at *
    -- the pages are as they were, the journal is there
    have hp : ∀ p, p < n → ∀ j, j < 4 → D2.s (placeN p j) = secL (Q p) j := fun p hp j hj => by
      rw [b1, app_out _ _ _ (fun x hx => ?_)]
      · exact hC.2 p hp j hj
      · have := (jrW_isW hn2 ho _ hx).1
        unfold placeN at this
        omega
    have h0 : says (D2.s 0) = false := by
      rw [b1, app_out _ _ _ (fun x hx => ?_)]
      · exact hC.1
      · have := (jrW_isW hn2 ho _ hx).1
        omega
    have hd : D2.s 1 = wB (l.map Chg.page) := by
      rw [b1]
      refine app_in _ _ _ _ (fun y hy => ?_) (.inl ?_)
      · rcases List.mem_cons.1 hy with hy | hy
        · rw [(Stp.wr_inj hy).2, oldC_pages]
        · obtain ⟨k, hk, j, hj, e, _⟩ := (mem_imW _ 0 _ _).1 hy
          unfold imageN at e
          omega
      · refine List.mem_cons.2 (.inl ?_)
        rw [oldC_pages]
    have hi : ∀ k (hk : k < l.length), ∀ j, j < 4 → D2.s (imageN k j) = secL (Q l[k].page.toNat) j := fun k hk j hj => by
      have hk' : k < (oldC Q l).length := by unfold oldC; simpa using hk
      have e0 : (oldC Q l)[k].data = Q l[k].page.toNat := by simp [oldC]
      rw [b1, ← e0]
      refine app_in _ _ _ _ (fun y hy => ?_) (.inl (List.mem_cons.2 (.inr ((mem_imW _ 0 _ _).2 ⟨k, hk', j, hj, by rw [Nat.zero_add], rfl⟩))))
      rcases List.mem_cons.1 hy with hy | hy
      · have e1 := (Stp.wr_inj hy).1
        unfold imageN at e1
        omega
      · obtain ⟨k', hk2, j', hj', e1, rfl⟩ := (mem_imW _ 0 _ _).1 hy
        unfold imageN at e1
        have e2 : k' = k ∧ j' = j := by omega
        obtain ⟨rfl, rfl⟩ := e2
        rfl
    have hw := back_read (okC_wE hn2 h)
    have hU : Under n D2.s Q (l.map Chg.page) := by
      refine ⟨?_, ?_, fun z hz => ?_, fun k hk j hj => ?_, fun p hpn _ j hj => hp p hpn j hj⟩
      · rw [hd]; exact hw.1
      · rw [hd]; exact hw.2
      · obtain ⟨c, hc, rfl⟩ := List.mem_map.1 hz
        exact h.p c hc
      · have hk' : k < l.length := by simpa using hk
        rw [hi k hk' j hj]
        simp
    obtain ⟨d1, d2⟩ := phase _ _ D2 (mark_isW true) b2
    have hout : ∀ S : Nat → List UInt8, (∀ k, k < D2.n → ¬ k = 0 → S k = D2.s k) → Under n S Q (l.map Chg.page) ∧ ∀ p, p < n → ∀ j, j < 4 → S (placeN p j) = secL (Q p) j := by
      intro S hS
      refine ⟨hU.same (hS 1 (by omega) (by omega)) (fun k hk j hj => hS _ (by unfold imageN; omega) (by unfold imageN; omega)) (fun p hp hpn j hj => hS _ (by unfold placeN; omega) (by unfold placeN; omega)), fun p hpp j hj => ?_⟩
      rw [hS _ (by unfold placeN; omega) (by unfold placeN; omega)]
      exact hp p hpp j hj
    rw [goE_append ([Stp.wr 0 (markL true)] ++ [Stp.sy]), go_append ([Stp.wr 0 (markL true)] ++ [Stp.sy])]
    by_cases he2 : D2.goE ([.wr 0 (markL true)] ++ [.sy]) = 0
    · rw [if_pos he2, if_pos he2]
      obtain ⟨f1, f2⟩ := d1 he2
      have hn4 := (go_n ([.wr 0 (markL true)] ++ [.sy]) D2).1
      generalize D2.go ([.wr 0 (markL true)] ++ [.sy]) = D3 at *
      have g := hout D3.s (fun k _ hk => by
        rw [f1]
        show upd D2.s 0 _ k = _
        simp [upd, hk])
      have hy : says (D3.s 0) = true := by
        rw [f1]
        exact says_yes
      exact settle_pure n D3 Q l _ (by omega) f2 hy g.1 h rfl
    · rw [if_neg he2, if_neg he2]
      refine ⟨fun h0 => absurd h0 he2, fun _ S hS => .inl ?_⟩
      obtain ⟨g1, g2⟩ := hout S (d2 he2 S hS)
      cases hsy : says (S 0)
      · exact .inl ⟨hsy, g2⟩
      · exact .inr ⟨hsy, _, g1⟩
  · rw [if_neg he, if_neg he]
    refine ⟨fun h0 => absurd h0 he, fun _ S hS => .inl (.inl ⟨?_, fun p hp j hj => ?_⟩)⟩
    · rw [a2 he S hS 0 (by omega) (by omega)]
      exact hC.1
    · rw [a2 he S hS _ (by unfold placeN; omega) (by unfold placeN; omega)]
      exact hC.2 p hp j hj
/-- What the journal says. -/
def imgC (Q : Nat → ByteArray) (L : List Int) : List Chg := L.map fun z => ⟨z, Q z.toNat⟩
theorem imgC_ok {n : Nat} {S : Nat → List UInt8} {Q : Nat → ByteArray} {L : List Int} (hQ : ∀ p, (Q p).size = 256) (h : Under n S Q L) : okC n (imgC Q L) := by
  have h2 := wE_ok (read_ok (s := mkA (S 1)) h.e).1
  have h1 : rL (mkA (S 1)) = L := h.l
  rw [h1] at h2
  have e : (imgC Q L).map Chg.page = L := by unfold imgC; rw [List.map_map]; exact List.map_id' L
  refine ⟨fun c hc => ?_, fun c hc => ?_, ?_, by unfold imgC; rw [List.length_map]; exact h2.1⟩
  · obtain ⟨z, hz, rfl⟩ := List.mem_map.1 hc
    exact h.r z hz
  · obtain ⟨z, hz, rfl⟩ := List.mem_map.1 hc
    exact hQ _
  · rw [e]
    have := h2.2
    unfold okP at this
    simp only [decide_eq_true_eq] at this
    exact this.2
theorem imgC_with {n : Nat} {Q : Nat → ByteArray} {L : List Int} (h : ∀ z ∈ L, 0 ≤ z ∧ z < (n : Int)) : withC Q (imgC Q L) = Q := by
  funext p
  by_cases e : (p : Int) ∈ L
  · have hc : (⟨p, Q p⟩ : Chg) ∈ imgC Q L := by
      unfold imgC
      rw [List.mem_map]
      exact ⟨p, e, by simp⟩
    exact withC_in _ Q p ⟨p, Q p⟩ (fun d hd he => by
      obtain ⟨z, hz, rfl⟩ := List.mem_map.1 hd
      have he' : z = (p : Int) := he
      subst he'
      simp) (.inl ⟨hc, rfl⟩)
  · exact withC_out _ Q p (fun c hc he => by
      obtain ⟨z, hz, rfl⟩ := List.mem_map.1 hc
      have he' : z = (p : Int) := he
      exact e (he' ▸ hz))
/-- Recovering. -/
theorem recover_pure (n : Nat) (D : Dv) (Q : Nat → ByteArray) (L : List Int) (hn : D.n = 126 + 4 * n) (hu : ∀ k, D.u k = none) (hy : says (D.s 0) = true) (hU : Under n D.s Q L) (hQ : ∀ p, (Q p).size = 256) :
    (D.goE (stW (imgC Q L)) = 0 → Clean n (D.go (stW (imgC Q L))).s Q ∧ ∀ k, (D.go (stW (imgC Q L))).u k = none) ∧
    (D.goE (stW (imgC Q L)) ≠ 0 → ∀ S, After (D.go (stW (imgC Q L))) S → Rec n S Q) := by
  have e : (imgC Q L).map Chg.page = L := by unfold imgC; rw [List.map_map]; exact List.map_id' L
  obtain ⟨a, b⟩ := settle_pure n D Q (imgC Q L) L hn hu hy hU (imgC_ok hQ hU) e
  rw [imgC_with hU.r] at a b
  exact ⟨a, fun h S hS => (b h S hS).elim id id⟩
theorem pgW_len (f : Nat → Nat) (x : ByteArray) : (pgW f x).length = 4 := by simp [pgW]
theorem plW_len (l : List Chg) : (plW l).length = 4 * l.length := by
  induction l with
  | nil => rfl
  | cons c l ih =>
    have e : plW (c :: l) = pgW (placeN c.page.toNat) c.data ++ plW l := by simp [plW]
    rw [e, List.length_append, pgW_len, ih, List.length_cons]
    omega
theorem imW_len (l : List Chg) : ∀ m, (imW m l).length = 4 * l.length := by
  induction l with
  | nil => intro m; rfl
  | cons c l ih =>
    intro m
    rw [imW, List.length_append, pgW_len, ih, List.length_cons]
    omega
theorem stW_len (l : List Chg) : (stW l).length = 4 * l.length + 3 := by
  unfold stW
  simp [plW_len]
theorem cmW_len (l m : List Chg) : (cmW l m).length = 4 * l.length + 4 * m.length + 7 := by
  unfold cmW jrW
  simp [imW_len, stW_len]
  omega

end Go.Proofs.YtgfijbbibafdfaaGreat
