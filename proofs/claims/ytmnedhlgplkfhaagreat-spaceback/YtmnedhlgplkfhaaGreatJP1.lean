/- Contract, over the turned program: undo.Join of sectors. Conditions: those that each theorem states. A pager's steps upon its device as a plain list, and what is there behind a crash amid them: plain mathematics. Conditions: those that each theorem states. Changes and a pager as they lie in memory. Definitions and laws, of the program the layout alone. Contracts, over the turned program: a pager's Size, Commits, has, hasAll; pagesOf. Conditions: those that each theorem states. Contracts, over the turned program: a pager's look (at a page, at an image). Conditions: those that each theorem states. Contracts, over the turned program: a pager's write (of a page, of an image). Conditions: those that each theorem states. Contract, over the turned program: steps done one behind the other. Conditions: those that the theorem states. -/
import Derived.Test.YtmnedhlgplkfhaaGreatJU
import Derived.Test.YtmnedhlgplkfhaaGreatUShelf
import Derived.Test.YtmnedhlgplkfhaaGreatJD
import Derived.Test.YtmnedhlgplkfhaaGreatJB
import Derived.WalkLawsBesides
import Derived.Shelf.Abstract
namespace Go.Proofs.YtmnedhlgplkfhaaGreat
open Go.RowKit
set_option linter.unusedVariables false

theorem join_cat (l : List ByteArray) : Lib.join (l.map (·.data.toList)) [] = catB l := by
  unfold catB
  rw [Lib.join]
  induction l with
  | nil => rfl
  | cons s l ih =>
    cases l with
    | nil => simp [List.intercalate]
    | cons t l =>
      rw [List.map_cons, List.map_cons, List.flatMap_cons, ← ih]
      simp [List.intercalate]
theorem Kp.ofBelow {w w' : World} (h : Below w.heap.size w w') : Kp none' w w' := ⟨h.os, h.tape, h.output, h.size, fun k hk _ => h.block k hk⟩
theorem strJoin (bk o c : Nat) (l : List ByteArray) (w : World) (hc : ∀ i (h : i < l.length), bk < w.heap.size ∧ w.cell? ⟨bk, o + i, none⟩ = some (.string l[i])) (hcap : l.length ≤ c) (hJ : okJ l = true) :
    Calls Tryz.prog 108 #[.slice (some ⟨bk, o, none⟩) l.length c, .string ⟨#[]⟩] w fun e w' => e = .returned (.string (joinS l)) ∧ Kp none' w w' := by
  have hj := hJ
  unfold okJ at hj
  simp only [decide_eq_true_eq] at hj
  have hl : (Lib.join (l.map (·.data.toList)) (⟨#[]⟩ : ByteArray).data.toList) = catB l := join_cat l
  have hs : (catB l).length = 256 := by rw [catB_len l hj.2, hj.1]
  refine (strings_Join bk o c l ⟨#[]⟩ w (fun j x hx => ?_) (hc 0 (by omega)).1 (by omega) hcap (by rw [hl]; omega)).mono ?_
  · obtain ⟨h1, rfl⟩ := List.getElem?_eq_some_iff.1 hx
    exact (hc j h1).2
  · rintro e w' ⟨rfl, hb⟩
    refine ⟨?_, Kp.ofBelow hb⟩
    rw [hl]
    unfold joinS
    rw [hJ]
    rfl
set_option maxRecDepth 100000 in
set_option maxHeartbeats 800000 in
theorem join_any (v : Value) (l : List ByteArray) (B : Nat) (w : World) (hS : Sl Value.string B w v l) (hB : B ≤ w.heap.size) :
    Calls Tryz.prog 83 #[v] w fun e w' => e = .returned (.tuple #[.string (joinS l), .int .i64 (joinE l)]) ∧ Kp none' w w' := by
  obtain ⟨a, c, rfl, hlc, hcm, ha⟩ := hS
  unfold maxLen at hcm
  by_cases hl : l.length = 4
  · obtain ⟨bk, o, rfl, _, hzz⟩ := ha 0 (by omega)
    clear hzz
    have HC : Hid (∀ i (h : i < l.length), bk < w.heap.size ∧ w.cell? ⟨bk, o + i, none⟩ = some (.string l[i])) := fun i hi => by
      obtain ⟨b', o', e, hb, hc⟩ := ha i hi
      cases e
      exact ⟨by omega, hc⟩
    obtain ⟨S, HS⟩ : ∃ S, Hid (joinS l = S) := ⟨_, rfl⟩
    obtain ⟨E, HE⟩ : ∃ E, Hid (joinE l = E) := ⟨_, rfl⟩
    rw [HS.out, HE.out]
    have hne : ((l.length : Int) != 4) = false := by simp [hl]
    have HL : Hid (l.length = 4) := hl
    have hli : (l.length : Int) ≤ 4 := by omega
    have Hcap := hide hlc
    clear hl ha
    go_enter Tryz.func83, Tryz.ntmps83
    go_wp2
    go_loopw [11] (fun t wr => ∃ k : Nat, k ≤ l.length ∧ t = .int .i64 k ∧ Hid (∀ s ∈ l.take k, s.size = 64) ∧ wr = w) (fun t _ => l.length - (intOf t).toNat)
    case atStart => exact ⟨0, Nat.zero_le _, rfl, hide (by simp), rfl⟩
    case round =>
      obtain ⟨k, hk, rfl, HA, rfl⟩ := hrel
      by_cases hlt : k < l.length
      · have hcc := (HC.out k hlt).2
        have hk' : (k : Int) < (l.length : Int) := by omega
        have HB := hide (okJ_bad (l := l) hlt)
        have HM : Hid (l[k].size = 64 → ∀ s ∈ l.take (k + 1), s.size = 64) := by
          intro h s hs
          rw [List.take_succ_eq_append_getElem hlt] at hs
          rcases List.mem_append.1 hs with hs | hs
          · exact HA.out s hs
          · simp at hs; subst hs; exact h
        generalize l[k] = x at hcc HB HM
        by_cases hx : x.size = 64
        · have hx' : ((x.size : Int) != 64) = false := by simp [hx]
          have HR := hide (HM.out hx)
          clear hx
          go_wp2
          go_roundw
          case rel => exact ⟨k + 1, by omega, by go_num, HR, trivial⟩
          case measure => simp [intOf]; omega
        · have hx' : ((x.size : Int) != 64) = true := by simp; omega
          have hb := hide (HB.out hx)
          clear hx
          go_wp2
          go_ret2
          rw [← HS.out, ← HE.out]
          refine ⟨?_, Kp.refl _ _⟩
          unfold joinS joinE
          rw [hb.out]
          rfl
      · have hb : Hid (okJ l = true) := by
          have h := HA.out
          rw [List.take_of_length_le (by omega)] at h
          show _ = _
          unfold okJ
          simp only [decide_eq_true_eq]
          exact ⟨HL.out, h⟩
        go_wp2_with (go_at_call 108; refine (strJoin bk o c l _ HC.out Hcap.out hb.out).mono ?_; rintro e w2 ⟨rfl, hk2⟩)
        go_ret2
        rw [← HS.out, ← HE.out]
        refine ⟨?_, hk2⟩
        unfold joinE
        rw [hb.out]
        rfl
  · have hb : okJ l = false := by unfold okJ; simp [hl]
    have hE : joinE l = 1 := by simp [joinE, hb]
    have hB : joinS l = ⟨#[]⟩ := by unfold joinS; rw [hb]; rfl
    rw [hE, hB]
    have hne : ((l.length : Int) != 4) = true := by simp; omega
    clear ha hE hB hl hb
    go_enter Tryz.func83, Tryz.ntmps83
    go_wp2
    go_ret2
    exact ⟨rfl, Kp.refl _ _⟩

end Go.Proofs.YtmnedhlgplkfhaaGreat

namespace Go.Proofs.YtmnedhlgplkfhaaGreat
open Go.RowKit
set_option linter.unusedVariables false

/-- A step: a sector is written, or all is made sure. -/
def Stp : Type := Option (Nat × List UInt8)
def Stp.wr (i : Nat) (x : List UInt8) : Stp := some (i, x)
def Stp.sy : Stp := none
theorem Stp.wr_inj {i j : Nat} {x y : List UInt8} (h : Stp.wr i x = Stp.wr j y) : i = j ∧ x = y := by
  have h1 : (i, x) = (j, y) := Option.some.inj h
  exact ⟨congrArg Prod.fst h1, congrArg Prod.snd h1⟩
theorem Stp.wr_sy {i : Nat} {x : List UInt8} (h : Stp.wr i x = Stp.sy) : False := by
  have h1 : (some (i, x) : Option (Nat × List UInt8)) = none := h
  cases h1
theorem Stp.split (s : Stp) : s = .sy ∨ ∃ i x, s = .wr i x := by
  unfold Stp at s
  rcases s with _ | ⟨i, x⟩
  · exact .inl rfl
  · exact .inr ⟨i, x, rfl⟩
/-- It writes a sector of T, whole. -/
def Stp.isW (T : Nat → Prop) (s : Stp) : Prop := match (s : Option (Nat × List UInt8)) with
  | some (i, x) => T i ∧ x.length = 64
  | none => False
def Dv.one (D : Dv) (s : Stp) : Dv := match (s : Option (Nat × List UInt8)) with
  | some (i, x) => { D.called with u := put D.u i x }
  | none => { D.called with s := D.at, u := fun _ => none }
/-- Steps in turn, up to the first that finds that the device stands still. -/
def Dv.go (D : Dv) : List Stp → Dv
  | [] => D
  | s :: l => if stillB D then D.called else (D.one s).go l
def Dv.goE (D : Dv) : List Stp → Int
  | [] => 0
  | s :: l => if stillB D then 9 else (D.one s).goE l
theorem goE_or (l : List Stp) : ∀ D : Dv, D.goE l = 0 ∨ D.goE l = 9 := by
  induction l with
  | nil => intro D; exact .inl rfl
  | cons s l ih =>
    intro D
    rw [Dv.goE]
    split
    · exact .inr rfl
    · exact ih _
theorem whole_self {x : List UInt8} (h : x.length = 64) : whole x = x := by
  unfold whole
  rw [List.take_append, List.take_of_length_le (by omega), h]
  simp
theorem write_go (D : Dv) (i : Nat) (x : List UInt8) (hi : i < D.n) (hx : x.length = 64) : D.write (i : Int) ⟨x.toArray⟩ = D.go [.wr i x] ∧ wrE D (i : Int) ⟨x.toArray⟩ = D.goE [.wr i x] := by
  have hh : hasB D.n (i : Int) = true := by simp [hasB]; omega
  have hs : (⟨x.toArray⟩ : ByteArray).size ≤ 64 := by show x.toArray.size ≤ 64; simp [hx]
  have hw : whole (⟨x.toArray⟩ : ByteArray).data.toList = x := by simpa using whole_self hx
  by_cases h : stillB D = true
  · have : wrE D (i : Int) ⟨x.toArray⟩ = 9 := by simp [wrE, h]
    refine ⟨?_, by rw [this]; simp [Dv.goE, h]⟩
    unfold Dv.write
    rw [this]
    simp [Dv.go, h]
  · have : wrE D (i : Int) ⟨x.toArray⟩ = 0 := by simp [wrE, h, hh, hs]
    refine ⟨?_, by rw [this]; simp [Dv.goE, h]⟩
    unfold Dv.write
    rw [this, if_pos rfl, hw]
    simp [Dv.go, h, Dv.one, Stp.wr]
theorem sync_go (D : Dv) : D.sync = D.go [.sy] ∧ syE D = D.goE [.sy] := by
  by_cases h : stillB D = true
  · exact ⟨by simp [Dv.sync, Dv.go, h], by simp [syE, Dv.goE, h]⟩
  · exact ⟨by simp [Dv.sync, Dv.go, Dv.one, Stp.sy, h], by simp [syE, Dv.goE, h]⟩
theorem go_append (l m : List Stp) : ∀ D : Dv, D.go (l ++ m) = if D.goE l = 0 then (D.go l).go m else D.go l := by
  induction l with
  | nil => intro D; simp [Dv.go, Dv.goE]
  | cons s l ih =>
    intro D
    rw [List.cons_append, Dv.go, Dv.go, Dv.goE]
    by_cases h : stillB D = true
    · simp [h]
    · simp only [h, if_false, Bool.false_eq_true]
      exact ih _
theorem goE_append (l m : List Stp) : ∀ D : Dv, D.goE (l ++ m) = if D.goE l = 0 then (D.go l).goE m else D.goE l := by
  induction l with
  | nil => intro D; simp [Dv.go, Dv.goE]
  | cons s l ih =>
    intro D
    rw [List.cons_append, Dv.goE, Dv.go, Dv.goE]
    by_cases h : stillB D = true
    · simp [h]
    · simp only [h, if_false, Bool.false_eq_true]
      exact ih _
theorem one_n (D : Dv) (s : Stp) : (D.one s).n = D.n ∧ (D.one s).c = D.c + 1 ∧ (D.one s).st = D.st ∧ (D.one s).f = D.f := by
  rcases s.split with rfl | ⟨i, x, rfl⟩ <;> exact ⟨rfl, rfl, rfl, rfl⟩
theorem go_n (l : List Stp) : ∀ D : Dv, (D.go l).n = D.n ∧ (D.go l).st = D.st ∧ (D.go l).f = D.f ∧ D.c ≤ (D.go l).c ∧ (D.go l).c ≤ D.c + l.length := by
  induction l with
  | nil => intro D; exact ⟨rfl, rfl, rfl, Int.le_refl _, by simp [Dv.go]⟩
  | cons s l ih =>
    intro D
    rw [Dv.go]
    split
    · refine ⟨rfl, rfl, rfl, ?_, ?_⟩
      · show D.c ≤ D.c + 1; omega
      · show D.c + 1 ≤ _; rw [List.length_cons]; omega
    · have h1 := ih (D.one s)
      have h2 := one_n D s
      rw [List.length_cons]
      exact ⟨by rw [h1.1, h2.1], by rw [h1.2.1, h2.2.2.1], by rw [h1.2.2.1, h2.2.2.2], by omega, by omega⟩
theorem go_c (l : List Stp) : ∀ D : Dv, D.goE l = 0 → (D.go l).c = D.c + l.length := by
  induction l with
  | nil => intro D _; simp [Dv.go]
  | cons s l ih =>
    intro D h
    rw [Dv.goE] at h
    rw [Dv.go]
    split
    · rename_i hs; rw [if_pos hs] at h; cases h
    · rename_i hs
      rw [if_neg hs] at h
      have h1 := ih _ h
      have h2 := one_n D s
      rw [List.length_cons]
      omega
theorem goE_free (l : List Stp) : ∀ D : Dv, D.st = false → D.goE l = 0 := by
  induction l with
  | nil => intro D _; rfl
  | cons s l ih =>
    intro D h
    have hs : stillB D = false := by simp [stillB, h]
    rw [Dv.goE, hs]
    exact ih _ (by rw [(one_n D s).2.2.1, h])

/-- What sectors read behind writes. -/
def appS (S : Nat → List UInt8) (s : Stp) : Nat → List UInt8 := match (s : Option (Nat × List UInt8)) with
  | some (i, x) => upd S i x
  | none => S
def app (S : Nat → List UInt8) : List Stp → Nat → List UInt8
  | [] => S
  | s :: l => app (appS S s) l
theorem app_out (l : List Stp) : ∀ (S : Nat → List UInt8) (k : Nat), (∀ x, Stp.wr k x ∉ l) → app S l k = S k := by
  induction l with
  | nil => intro S k _; rfl
  | cons s l ih =>
    intro S k h
    have h' : ∀ x, Stp.wr k x ∉ l := fun x hx => h x (List.mem_cons_of_mem _ hx)
    rcases s.split with rfl | ⟨i, x, rfl⟩
    · rw [app, ih _ _ h']
      rfl
    · rw [app, ih _ _ h']
      have : k ≠ i := fun e => h x (by subst e; exact List.mem_cons_self)
      show upd S i x k = _
      simp [upd, this]
theorem app_in (l : List Stp) : ∀ (S : Nat → List UInt8) (k : Nat) (x : List UInt8), (∀ y, Stp.wr k y ∈ l → y = x) → (Stp.wr k x ∈ l ∨ S k = x) → app S l k = x := by
  induction l with
  | nil =>
    intro S k x _ h
    rcases h with h | h
    · cases h
    · exact h
  | cons s l ih =>
    intro S k x hu h
    have hu' : ∀ y, Stp.wr k y ∈ l → y = x := fun y hy => hu y (List.mem_cons_of_mem _ hy)
    rcases s.split with rfl | ⟨i, y, rfl⟩
    · rw [app]
      refine ih _ _ _ hu' ?_
      rcases h with h | h
      · rcases List.mem_cons.1 h with h | h
        · exact (Stp.wr_sy h).elim
        · exact .inl h
      · exact .inr h
    · rw [app]
      refine ih _ _ _ hu' ?_
      show _ ∨ upd S i y k = x
      by_cases e : k = i
      · subst e
        exact .inr (by rw [upd, if_pos rfl]; exact hu y List.mem_cons_self)
      · rcases h with h | h
        · rcases List.mem_cons.1 h with h | h
          · exact absurd (Stp.wr_inj h).1 e
          · exact .inl h
        · exact .inr (by rw [upd, if_neg e]; exact h)
theorem at_one (D : Dv) (i : Nat) (x : List UInt8) : (D.one (.wr i x)).at = upd D.at i x := by
  funext k
  unfold Dv.at Dv.one put upd Stp.wr
  by_cases e : k = i <;> simp [e, Dv.called]
theorem at_sy (D : Dv) : (D.one .sy).at = D.at := by
  funext k
  simp [Dv.at, Dv.one, Stp.sy]
theorem at_none {D : Dv} (hu : ∀ k, D.u k = none) : D.at = D.s := by
  funext k
  simp [Dv.at, hu]
/-- Whatever a list of steps leaves, a sector that it doesn't write reads as ahead. -/
theorem go_at_out (l : List Stp) : ∀ (D : Dv) (k : Nat), (∀ x, Stp.wr k x ∉ l) → (D.go l).at k = D.at k := by
  induction l with
  | nil => intro D k _; rfl
  | cons s l ih =>
    intro D k h
    have h' : ∀ x, Stp.wr k x ∉ l := fun x hx => h x (List.mem_cons_of_mem _ hx)
    rw [Dv.go]
    split
    · rfl
    · rw [ih _ _ h']
      rcases s.split with rfl | ⟨i, x, rfl⟩
      · rw [at_sy]
      · rw [at_one]
        have : k ≠ i := fun e => h x (by subst e; exact List.mem_cons_self)
        simp [upd, this]
theorem go_writes (T : Nat → Prop) (l : List Stp) : ∀ D : Dv, (∀ s ∈ l, s.isW T) → (D.go l).s = D.s ∧ (∀ k, ¬ T k → (D.go l).u k = D.u k) ∧ (D.goE l = 0 → (D.go l).at = app D.at l) := by
  induction l with
  | nil => intro D _; exact ⟨rfl, fun _ _ => rfl, fun _ => rfl⟩
  | cons s l ih =>
    intro D h
    have hs := h s List.mem_cons_self
    have h' : ∀ s ∈ l, s.isW T := fun s hs => h s (List.mem_cons_of_mem _ hs)
    rcases s.split with rfl | ⟨i, x, rfl⟩
    · exact False.elim hs
    · rw [Dv.go, Dv.goE]
      have hs1 : T i := hs.1
      split
      · exact ⟨rfl, fun _ _ => rfl, fun h => by cases h⟩
      · obtain ⟨h1, h2, h3⟩ := ih (D.one (.wr i x)) h'
        refine ⟨h1, fun k hk => ?_, fun he => ?_⟩
        · rw [h2 k hk]
          have : k ≠ i := fun e => hk (e ▸ hs1)
          simp [Dv.one, put, this, Stp.wr]
        · rw [h3 he, at_one]
          rfl

/-- What may be sure behind a crash. -/
def After (D : Dv) (S : Nat → List UInt8) : Prop := ∀ k, k < D.n → D.u k = none → S k = D.s k
/-- Writes of sectors of T, then Sync. -/
theorem phase (T : Nat → Prop) (l : List Stp) (D : Dv) (h : ∀ s ∈ l, s.isW T) (hu : ∀ k, D.u k = none) :
    (D.goE (l ++ [.sy]) = 0 → (D.go (l ++ [.sy])).s = app D.s l ∧ ∀ k, (D.go (l ++ [.sy])).u k = none) ∧
    (D.goE (l ++ [.sy]) ≠ 0 → ∀ S, After (D.go (l ++ [.sy])) S → ∀ k, k < D.n → ¬ T k → S k = D.s k) := by
  obtain ⟨h1, h2, h3⟩ := go_writes T l D h
  rw [goE_append, go_append]
  by_cases he : D.goE l = 0
  · rw [if_pos he, if_pos he]
    have ha := h3 he
    rw [at_none hu] at ha
    constructor
    · intro h0
      rw [Dv.goE] at h0
      rw [Dv.go]
      split at h0
      · cases h0
      · rename_i hs
        rw [if_neg hs]
        exact ⟨ha, fun k => rfl⟩
    · intro h0 S hS k hk hT
      rw [Dv.goE] at h0
      rw [Dv.go] at hS
      split at h0
      · rename_i hs
        rw [if_pos hs] at hS
        have := hS k (by show k < (D.go l).n; rw [(go_n l D).1]; exact hk) (by show (D.go l).u k = none; rw [h2 k hT]; exact hu k)
        rw [this]
        show (D.go l).s k = _
        rw [h1]
      · exact absurd rfl h0
  · rw [if_neg he, if_neg he]
    refine ⟨fun h0 => absurd h0 he, fun _ S hS k hk hT => ?_⟩
    rw [hS k (by rw [(go_n l D).1]; exact hk) (by rw [h2 k hT]; exact hu k), h1]

/-- Where a page, an image lies. -/
def placeN (p j : Nat) : Nat := 126 + 4 * p + j
def imageN (k j : Nat) : Nat := 2 + 4 * k + j
/-- A change. -/
structure Chg where
  page : Int
  data : ByteArray
def secL (x : ByteArray) (j : Nat) : List UInt8 := (cutAt x j).data.toList
theorem secL_len {x : ByteArray} (h : x.size = 256) {j : Nat} (hj : j < 4) : (secL x j).length = 64 := by
  unfold secL cutAt
  rw [Array.length_toList]
  show (x.extract (j * 64) ((j + 1) * 64)).size = 64
  rw [ByteArray.size_extract]
  omega
/-- The bytes of a sector, as a text. -/
def mkA (x : List UInt8) : ByteArray := ⟨x.toArray⟩
def says (x : List UInt8) : Bool := saysB (mkA x)
def dirE (x : List UInt8) : Int := rE (mkA x)
def dirL (x : List UInt8) : List Int := rL (mkA x)
/-- The pages are Q, and nothing is under way. -/
def Clean (n : Nat) (S : Nat → List UInt8) (Q : Nat → ByteArray) : Prop := says (S 0) = false ∧ ∀ p, p < n → ∀ j, j < 4 → S (placeN p j) = secL (Q p) j
/-- There is a journal that makes them Q. -/
structure Under (n : Nat) (S : Nat → List UInt8) (Q : Nat → ByteArray) (L : List Int) : Prop where
  e : dirE (S 1) = 0
  l : dirL (S 1) = L
  r : ∀ z ∈ L, 0 ≤ z ∧ z < n
  i : ∀ k (h : k < L.length), ∀ j, j < 4 → S (imageN k j) = secL (Q L[k].toNat) j
  o : ∀ p, p < n → (p : Int) ∉ L → ∀ j, j < 4 → S (placeN p j) = secL (Q p) j
/-- Recovering makes them Q. -/
def Rec (n : Nat) (S : Nat → List UInt8) (Q : Nat → ByteArray) : Prop := Clean n S Q ∨ (says (S 0) = true ∧ ∃ L, Under n S Q L)
theorem Under.same {n : Nat} {S S' : Nat → List UInt8} {Q : Nat → ByteArray} {L : List Int} (h : Under n S Q L) (hd : S' 1 = S 1) (hi : ∀ k, k < 31 → ∀ j, j < 4 → S' (imageN k j) = S (imageN k j))
    (ho : ∀ p, p < n → (p : Int) ∉ L → ∀ j, j < 4 → S' (placeN p j) = S (placeN p j)) : Under n S' Q L := by
  have hl : L.length ≤ 31 := by
    have h1 := h.l
    have h2 := (wE_ok (read_ok (s := mkA (S 1)) h.e).1).1
    unfold dirL at h1
    rw [h1] at h2
    exact h2
  exact ⟨by rw [hd]; exact h.e, by rw [hd]; exact h.l, h.r, fun k hk j hj => by rw [hi k (by omega) j hj]; exact h.i k hk j hj, fun p hp hn j hj => by rw [ho p hp hn j hj]; exact h.o p hp hn j hj⟩

/-- A page's writes. -/
def pgW (f : Nat → Nat) (x : ByteArray) : List Stp := (List.range 4).map fun j => .wr (f j) (secL x j)
def plW (l : List Chg) : List Stp := l.flatMap fun c => pgW (placeN c.page.toNat) c.data
def imW : Nat → List Chg → List Stp
  | _, [] => []
  | k, c :: l => pgW (imageN k) c.data ++ imW (k + 1) l
def jrW (l : List Chg) : List Stp := .wr 1 (wB (l.map Chg.page)) :: imW 0 l
def stW (l : List Chg) : List Stp := (plW l ++ [.sy]) ++ ([.wr 0 (markL false)] ++ [.sy])
def cmW (old new : List Chg) : List Stp := (jrW old ++ [.sy]) ++ (([.wr 0 (markL true)] ++ [.sy]) ++ stW new)
theorem mem_pgW {f : Nat → Nat} {x : ByteArray} {i : Nat} {y : List UInt8} : Stp.wr i y ∈ pgW f x ↔ ∃ j, j < 4 ∧ i = f j ∧ y = secL x j := by
  unfold pgW
  rw [List.mem_map]
  constructor
  · rintro ⟨j, hj, he⟩
    obtain ⟨rfl, rfl⟩ := Stp.wr_inj he
    exact ⟨j, by simpa using hj, rfl, rfl⟩
  · rintro ⟨j, hj, rfl, rfl⟩
    exact ⟨j, by simpa using hj, rfl⟩
theorem mem_plW {l : List Chg} {i : Nat} {y : List UInt8} : Stp.wr i y ∈ plW l ↔ ∃ c ∈ l, ∃ j, j < 4 ∧ i = placeN c.page.toNat j ∧ y = secL c.data j := by
  unfold plW
  rw [List.mem_flatMap]
  constructor
  · rintro ⟨c, hc, h⟩
    exact ⟨c, hc, mem_pgW.1 h⟩
  · rintro ⟨c, hc, h⟩
    exact ⟨c, hc, mem_pgW.2 h⟩
theorem mem_imW (l : List Chg) : ∀ (m i : Nat) (y : List UInt8), Stp.wr i y ∈ imW m l ↔ ∃ k, ∃ h : k < l.length, ∃ j, j < 4 ∧ i = imageN (m + k) j ∧ y = secL l[k].data j := by
  induction l with
  | nil => intro m i y; simp [imW]
  | cons c l ih =>
    intro m i y
    rw [imW, List.mem_append, mem_pgW, ih]
    constructor
    · rintro (⟨j, hj, rfl, rfl⟩ | ⟨k, hk, j, hj, rfl, rfl⟩)
      · exact ⟨0, by simp, j, hj, rfl, rfl⟩
      · refine ⟨k + 1, by simpa using hk, j, hj, ?_, rfl⟩
        congr 1
        omega
    · rintro ⟨k, hk, j, hj, rfl, rfl⟩
      rcases k with _ | k
      · exact .inl ⟨j, hj, rfl, rfl⟩
      · refine .inr ⟨k, by simpa using hk, j, hj, ?_, rfl⟩
        congr 1
        omega
theorem sy_pgW (f : Nat → Nat) (x : ByteArray) : Stp.sy ∉ pgW f x := by
  unfold pgW
  rw [List.mem_map]
  rintro ⟨j, _, he⟩
  exact Stp.wr_sy he
theorem sy_plW (l : List Chg) : Stp.sy ∉ plW l := by
  unfold plW
  rw [List.mem_flatMap]
  rintro ⟨c, _, h⟩
  exact sy_pgW _ _ h
theorem sy_imW (l : List Chg) : ∀ m, Stp.sy ∉ imW m l := by
  induction l with
  | nil => intro m; simp [imW]
  | cons c l ih =>
    intro m
    rw [imW, List.mem_append]
    rintro (h | h)
    · exact sy_pgW _ _ h
    · exact ih _ h
/-- Changes that may be. -/
structure okC (n : Nat) (l : List Chg) : Prop where
  p : ∀ c ∈ l, 0 ≤ c.page ∧ c.page < n
  d : ∀ c ∈ l, c.data.size = 256
  u : (l.map Chg.page).Nodup
  m : l.length ≤ 31
/-- The pages with changes made. -/
def withC (Q : Nat → ByteArray) (l : List Chg) : Nat → ByteArray := l.foldl (fun Q c => fun p => if (p : Int) = c.page then c.data else Q p) Q
theorem withC_out (l : List Chg) : ∀ (Q : Nat → ByteArray) (p : Nat), (∀ c ∈ l, c.page ≠ (p : Int)) → withC Q l p = Q p := by
  induction l with
  | nil => intro Q p _; rfl
  | cons c l ih =>
    intro Q p h
    show withC _ l p = _
    rw [ih _ _ (fun d hd => h d (List.mem_cons_of_mem _ hd))]
    have := h c List.mem_cons_self
    simp [Ne.symm this]
theorem withC_in (l : List Chg) : ∀ (Q : Nat → ByteArray) (p : Nat) (c : Chg), (∀ d ∈ l, d.page = (p : Int) → d = c) → (c ∈ l ∧ c.page = p ∨ Q p = c.data) → withC Q l p = c.data := by
  induction l with
  | nil =>
    intro Q p c _ h
    rcases h with h | h
    · cases h.1
    · exact h
  | cons d l ih =>
    intro Q p c hu h
    show withC _ l p = _
    refine ih _ _ _ (fun e he => hu e (List.mem_cons_of_mem _ he)) ?_
    by_cases e : (p : Int) = d.page
    · have := hu d List.mem_cons_self e.symm
      subst this
      exact .inr (by simp [e])
    · rcases h with ⟨h, hp⟩ | h
      · rcases List.mem_cons.1 h with h | h
        · subst h; exact absurd hp.symm e
        · exact .inl ⟨h, hp⟩
      · exact .inr (by simp [e, h])
theorem nodup_eq {l : List Chg} (h : (l.map Chg.page).Nodup) {c d : Chg} (hc : c ∈ l) (hd : d ∈ l) (he : c.page = d.page) : c = d := by
  obtain ⟨i, hi, rfl⟩ := List.getElem_of_mem hc
  obtain ⟨j, hj, rfl⟩ := List.getElem_of_mem hd
  have hp := List.pairwise_iff_getElem.1 h
  have hi' : i < (l.map Chg.page).length := by simpa using hi
  have hj' : j < (l.map Chg.page).length := by simpa using hj
  have e : (l.map Chg.page)[i] = (l.map Chg.page)[j] := by simpa using he
  rcases Nat.lt_trichotomy i j with hlt | hlt | hlt
  · exact absurd e (hp i j hi' hj' hlt)
  · subst hlt; rfl
  · exact absurd e.symm (hp j i hj' hi' hlt)
theorem withC_size {n : Nat} {Q : Nat → ByteArray} {l : List Chg} (hQ : ∀ p, (Q p).size = 256) (h : okC n l) : ∀ p, (withC Q l p).size = 256 := by
  intro p
  by_cases e : ∃ c ∈ l, c.page = (p : Int)
  · obtain ⟨c, hc, hp⟩ := e
    rw [withC_in l Q p c (fun d hd he => nodup_eq h.u hd hc (by rw [he, hp])) (.inl ⟨hc, hp⟩)]
    exact h.d c hc
  · rw [withC_out l Q p (fun c hc he => e ⟨c, hc, he⟩)]
    exact hQ p
theorem okC_wE {n : Nat} {l : List Chg} (hn : n ≤ 160) (h : okC n l) : wE (l.map Chg.page) = 0 := by
  have ho : okP (l.map Chg.page) = true := by
    unfold okP
    simp only [decide_eq_true_eq]
    refine ⟨fun z hz => ?_, h.u⟩
    obtain ⟨c, hc, rfl⟩ := List.mem_map.1 hz
    have := h.p c hc
    omega
  have hm : ¬ 31 < (l.map Chg.page).length := by have := h.m; rw [List.length_map]; omega
  unfold wE
  rw [if_neg hm, if_pos ho]

/-- Behind the pages' writes. -/
theorem app_plW {n : Nat} {l : List Chg} (h : okC n l) (S : Nat → List UInt8) {Q : Nat → ByteArray} (hS : ∀ p, p < n → (∀ c ∈ l, c.page ≠ (p : Int)) → ∀ j, j < 4 → S (placeN p j) = secL (Q p) j) :
    (∀ p, p < n → ∀ j, j < 4 → app S (plW l) (placeN p j) = secL (withC Q l p) j) ∧ ∀ k, k < 126 → app S (plW l) k = S k := by
  refine ⟨fun p hp j hj => ?_, fun k hk => app_out _ _ _ (fun x hx => ?_)⟩
  · by_cases e : ∃ c ∈ l, c.page = (p : Int)
    · obtain ⟨c, hc, hcp⟩ := e
      have hi : ∀ d ∈ l, d.page = (p : Int) → d = c := fun d hd he => nodup_eq h.u hd hc (by rw [he, hcp])
      rw [withC_in l Q p c hi (.inl ⟨hc, hcp⟩)]
      refine app_in _ _ _ _ (fun y hy => ?_) (.inl (mem_plW.2 ⟨c, hc, j, hj, by rw [hcp]; rfl, rfl⟩))
      obtain ⟨d, hd, j', hj', he, rfl⟩ := mem_plW.1 hy
      unfold placeN at he
      have hd0 := (h.p d hd).1
      have e1 : d.page.toNat = p ∧ j' = j := by omega
      have := hi d hd (by omega)
      rw [this, e1.2]
    · have hno : ∀ c ∈ l, c.page ≠ (p : Int) := fun c hc he => e ⟨c, hc, he⟩
      rw [withC_out l Q p hno, ← hS p hp hno j hj]
      refine app_out _ _ _ (fun x hx => ?_)
      obtain ⟨d, hd, j', hj', he, rfl⟩ := mem_plW.1 hx
      unfold placeN at he
      have hd0 := (h.p d hd).1
      exact hno d hd (by omega)
  · obtain ⟨d, hd, j', hj', he, rfl⟩ := mem_plW.1 hx
    unfold placeN at he
    omega
theorem plW_isW {n : Nat} {l : List Chg} (h : okC n l) : ∀ s ∈ plW l, s.isW (fun k => ∃ c ∈ l, ∃ j, j < 4 ∧ k = placeN c.page.toNat j) := by
  intro s hs
  rcases s.split with rfl | ⟨i, x, rfl⟩
  · exact absurd hs (sy_plW l)
  · obtain ⟨c, hc, j, hj, rfl, rfl⟩ := mem_plW.1 hs
    exact ⟨⟨c, hc, j, hj, rfl⟩, secL_len (h.d c hc) hj⟩
theorem mark_isW (b : Bool) : ∀ s ∈ [Stp.wr 0 (markL b)], s.isW (fun k => k = 0) := by
  intro s hs
  rw [List.mem_singleton] at hs
  subst hs
  exact ⟨rfl, whole_len _⟩
theorem says_yes : says (markL true) = true := by kernel_rfl
theorem says_no : says (markL false) = false := by kernel_rfl
/-- Making the pages sure as they are in l, ahead a journal that makes them Q. -/
theorem settle_pure (n : Nat) (D : Dv) (Q : Nat → ByteArray) (l : List Chg) (L : List Int) (hn : D.n = 126 + 4 * n) (hu : ∀ k, D.u k = none) (hy : says (D.s 0) = true) (hU : Under n D.s Q L)
    (h : okC n l) (hl : l.map Chg.page = L) :
    (D.goE (stW l) = 0 → Clean n (D.go (stW l)).s (withC Q l) ∧ ∀ k, (D.go (stW l)).u k = none) ∧
    (D.goE (stW l) ≠ 0 → ∀ S, After (D.go (stW l)) S → Rec n S Q ∨ Rec n S (withC Q l)) := by
  have hin : ∀ p : Nat, (p : Int) ∉ L → ∀ c ∈ l, c.page ≠ (p : Int) := fun p hp c hc he => hp (by rw [← hl, ← he]; exact List.mem_map_of_mem hc)
  have hU1 : ∀ S, (∀ k, k < D.n → (¬ ∃ c ∈ l, ∃ j, j < 4 ∧ k = placeN c.page.toNat j) → S k = D.s k) → Under n S Q L := by
    intro S hS
    refine hU.same (hS 1 (by omega) ?_) (fun k hk j hj => hS _ (by unfold imageN; omega) ?_) (fun p hp hpn j hj => hS _ (by unfold placeN; omega) ?_)
    · rintro ⟨c, _, j, _, he⟩; unfold placeN at he; omega
    · rintro ⟨c, _, j, _, he⟩; unfold placeN imageN at he; omega
    · rintro ⟨c, hc, j', hj', he⟩
      unfold placeN at he
      have := (h.p c hc).1
      exact hin p hpn c hc (by omega)
  obtain ⟨a1, a2⟩ := phase _ (plW l) D (plW_isW h) hu
  rw [stW, goE_append (plW l ++ [Stp.sy]), go_append (plW l ++ [Stp.sy])]
  by_cases he : D.goE (plW l ++ [.sy]) = 0
  · rw [if_pos he, if_pos he]
    obtain ⟨b1, b2⟩ := a1 he
    obtain ⟨c1, c2⟩ := app_plW h D.s (Q := Q) (fun p hp hno j hj => hU.o p hp (fun hm => by
      rw [← hl] at hm
      obtain ⟨c, hc, hcp⟩ := List.mem_map.1 hm
      exact hno c hc hcp) j hj)
    have hn2 := (go_n (plW l ++ [.sy]) D).1
    generalize D.go (plW l ++ [.sy]) = D2 at *
    have hU2 : Under n D2.s Q L := hU1 _ (fun k hk hno => by
      rw [b1]
      refine app_out _ _ _ (fun x hx => hno ?_)
      obtain ⟨c, hc, j, hj, e, _⟩ := mem_plW.1 hx
      exact ⟨c, hc, j, hj, e⟩)
    rw [← b1] at c1
    obtain ⟨d1, d2⟩ := phase _ _ D2 (mark_isW false) b2
    have hout : ∀ S : Nat → List UInt8, (∀ k, k < D2.n → ¬ k = 0 → S k = D2.s k) → Under n S Q L ∧ ∀ p, p < n → ∀ j, j < 4 → S (placeN p j) = secL (withC Q l p) j := by
      intro S hS
      refine ⟨hU2.same (hS 1 (by omega) (by omega)) (fun k hk j hj => hS _ (by unfold imageN; omega) (by unfold imageN; omega)) (fun p hp hpn j hj => hS _ (by unfold placeN; omega) (by unfold placeN; omega)), fun p hp j hj => ?_⟩
      rw [hS _ (by unfold placeN; omega) (by unfold placeN; omega)]
      exact c1 p hp j hj
    constructor
    · intro h0
      obtain ⟨f1, f2⟩ := d1 h0
      refine ⟨⟨?_, fun p hp j hj => ?_⟩, f2⟩
      · rw [f1]
        exact says_no
      · rw [f1]
        refine (hout _ (fun k _ hk => ?_)).2 p hp j hj
        show upd D2.s 0 _ k = _
        simp [upd, hk]
    · intro h0 S hS
      obtain ⟨g1, g2⟩ := hout S (d2 h0 S hS)
      cases hsy : says (S 0)
      · exact .inr (.inl ⟨hsy, g2⟩)
      · exact .inl (.inr ⟨hsy, L, g1⟩)
  · rw [if_neg he, if_neg he]
    refine ⟨fun h0 => absurd h0 he, fun _ S hS => .inl (.inr ⟨?_, L, hU1 S (a2 he S hS)⟩)⟩
    rw [a2 he S hS 0 (by omega) (by rintro ⟨c, _, j, _, e⟩; unfold placeN at e; omega)]
    exact hy
theorem jrW_isW {n : Nat} {l : List Chg} (hn : n ≤ 160) (h : okC n l) : ∀ s ∈ jrW l, s.isW (fun k => 1 ≤ k ∧ k < 126) := by
  intro s hs
  rcases List.mem_cons.1 hs with hs | hs
  · subst hs
    refine ⟨⟨Nat.le_refl _, by omega⟩, ?_⟩
    unfold wB
    rw [if_pos (okC_wE hn h)]
    exact whole_len _
  · rcases s.split with rfl | ⟨i, x, rfl⟩
    · exact absurd hs (sy_imW l 0)
    · obtain ⟨k, hk, j, hj, rfl, rfl⟩ := (mem_imW l 0 i x).1 hs
      have := h.m
      exact ⟨by unfold imageN; omega, secL_len (h.d _ (List.getElem_mem hk)) hj⟩
/-- What is there of the pages of changes. -/
def oldC (Q : Nat → ByteArray) (l : List Chg) : List Chg := l.map fun c => ⟨c.page, Q c.page.toNat⟩
theorem oldC_pages (Q : Nat → ByteArray) (l : List Chg) : (oldC Q l).map Chg.page = l.map Chg.page := by simp [oldC]
theorem oldC_ok {n : Nat} {Q : Nat → ByteArray} {l : List Chg} (hQ : ∀ p, (Q p).size = 256) (h : okC n l) : okC n (oldC Q l) := by
  refine ⟨fun c hc => ?_, fun c hc => ?_, by rw [oldC_pages]; exact h.u, by unfold oldC; rw [List.length_map]; exact h.m⟩
  · obtain ⟨d, hd, rfl⟩ := List.mem_map.1 hc
    exact h.p d hd
  · obtain ⟨d, hd, rfl⟩ := List.mem_map.1 hc
    exact hQ _
/-- A commit. -/
theorem commit_pure (n : Nat) (D : Dv) (Q : Nat → ByteArray) (l : List Chg) (hn : D.n = 126 + 4 * n) (hn2 : n ≤ 160) (hu : ∀ k, D.u k = none) (hC : Clean n D.s Q) (hQ : ∀ p, (Q p).size = 256) (h : okC n l) :
    (D.goE (cmW (oldC Q l) l) = 0 → Clean n (D.go (cmW (oldC Q l) l)).s (withC Q l) ∧ ∀ k, (D.go (cmW (oldC Q l) l)).u k = none) ∧
    (D.goE (cmW (oldC Q l) l) ≠ 0 → ∀ S, After (D.go (cmW (oldC Q l) l)) S → Rec n S Q ∨ Rec n S (withC Q l)) := by
  have ho := oldC_ok hQ h
  obtain ⟨a1, a2⟩ := phase _ (jrW (oldC Q l)) D (jrW_isW hn2 ho) hu
  rw [cmW, goE_append (jrW (oldC Q l) ++ [Stp.sy]), go_append (jrW (oldC Q l) ++ [Stp.sy])]
  by_cases he : D.goE (jrW (oldC Q l) ++ [.sy]) = 0
  · rw [if_pos he, if_pos he]
    obtain ⟨b1, b2⟩ := a1 he
    have hn3 := (go_n (jrW (oldC Q l) ++ [.sy]) D).1
    generalize D.go (jrW (oldC Q l) ++ [.sy]) = D2 at *
    -- the pages are as they were, the journal is there
    have hp : ∀ p, p < n → ∀ j, j < 4 → D2.s (placeN p j) = secL (Q p) j := fun p hp j hj => by
      rw [b1, app_out _ _ _ (fun x hx => ?_)]
      · exact hC.2 p hp j hj
      · have := (jrW_isW hn2 ho _ hx).1
        unfold placeN at this
        omega
    have h0 : says (D2.s 0) = false := by
      rw [b1, app_out _ _ _ (fun x hx => ?_)]
      · exact hC.1
      · have := (jrW_isW hn2 ho _ hx).1
        omega
    have hd : D2.s 1 = wB (l.map Chg.page) := by
      rw [b1]
      refine app_in _ _ _ _ (fun y hy => ?_) (.inl ?_)
      · rcases List.mem_cons.1 hy with hy | hy
        · rw [(Stp.wr_inj hy).2, oldC_pages]
        · obtain ⟨k, hk, j, hj, e, _⟩ := (mem_imW _ 0 _ _).1 hy
          unfold imageN at e
          omega
      · refine List.mem_cons.2 (.inl ?_)
        rw [oldC_pages]
    have hi : ∀ k (hk : k < l.length), ∀ j, j < 4 → D2.s (imageN k j) = secL (Q l[k].page.toNat) j := fun k hk j hj => by
      have hk' : k < (oldC Q l).length := by unfold oldC; simpa using hk
      have e0 : (oldC Q l)[k].data = Q l[k].page.toNat := by simp [oldC]
      rw [b1, ← e0]
      refine app_in _ _ _ _ (fun y hy => ?_) (.inl (List.mem_cons.2 (.inr ((mem_imW _ 0 _ _).2 ⟨k, hk', j, hj, by rw [Nat.zero_add], rfl⟩))))
      rcases List.mem_cons.1 hy with hy | hy
      · have e1 := (Stp.wr_inj hy).1
        unfold imageN at e1
        omega
      · obtain ⟨k', hk2, j', hj', e1, rfl⟩ := (mem_imW _ 0 _ _).1 hy
        unfold imageN at e1
        have e2 : k' = k ∧ j' = j := by omega
        obtain ⟨rfl, rfl⟩ := e2
        rfl
    have hw := back_read (okC_wE hn2 h)
    have hU : Under n D2.s Q (l.map Chg.page) := by
      refine ⟨?_, ?_, fun z hz => ?_, fun k hk j hj => ?_, fun p hpn _ j hj => hp p hpn j hj⟩
      · rw [hd]; exact hw.1
      · rw [hd]; exact hw.2
      · obtain ⟨c, hc, rfl⟩ := List.mem_map.1 hz
        exact h.p c hc
      · have hk' : k < l.length := by simpa using hk
        rw [hi k hk' j hj]
        simp
    obtain ⟨d1, d2⟩ := phase _ _ D2 (mark_isW true) b2
    have hout : ∀ S : Nat → List UInt8, (∀ k, k < D2.n → ¬ k = 0 → S k = D2.s k) → Under n S Q (l.map Chg.page) ∧ ∀ p, p < n → ∀ j, j < 4 → S (placeN p j) = secL (Q p) j := by
      intro S hS
      refine ⟨hU.same (hS 1 (by omega) (by omega)) (fun k hk j hj => hS _ (by unfold imageN; omega) (by unfold imageN; omega)) (fun p hp hpn j hj => hS _ (by unfold placeN; omega) (by unfold placeN; omega)), fun p hpp j hj => ?_⟩
      rw [hS _ (by unfold placeN; omega) (by unfold placeN; omega)]
      exact hp p hpp j hj
    rw [goE_append ([Stp.wr 0 (markL true)] ++ [Stp.sy]), go_append ([Stp.wr 0 (markL true)] ++ [Stp.sy])]
    by_cases he2 : D2.goE ([.wr 0 (markL true)] ++ [.sy]) = 0
    · rw [if_pos he2, if_pos he2]
      obtain ⟨f1, f2⟩ := d1 he2
      have hn4 := (go_n ([.wr 0 (markL true)] ++ [.sy]) D2).1
      generalize D2.go ([.wr 0 (markL true)] ++ [.sy]) = D3 at *
      have g := hout D3.s (fun k _ hk => by
        rw [f1]
        show upd D2.s 0 _ k = _
        simp [upd, hk])
      have hy : says (D3.s 0) = true := by
        rw [f1]
        exact says_yes
      exact settle_pure n D3 Q l _ (by omega) f2 hy g.1 h rfl
    · rw [if_neg he2, if_neg he2]
      refine ⟨fun h0 => absurd h0 he2, fun _ S hS => .inl ?_⟩
      obtain ⟨g1, g2⟩ := hout S (d2 he2 S hS)
      cases hsy : says (S 0)
      · exact .inl ⟨hsy, g2⟩
      · exact .inr ⟨hsy, _, g1⟩
  · rw [if_neg he, if_neg he]
    refine ⟨fun h0 => absurd h0 he, fun _ S hS => .inl (.inl ⟨?_, fun p hp j hj => ?_⟩)⟩
    · rw [a2 he S hS 0 (by omega) (by omega)]
      exact hC.1
    · rw [a2 he S hS _ (by unfold placeN; omega) (by unfold placeN; omega)]
      exact hC.2 p hp j hj
/-- What the journal says. -/
def imgC (Q : Nat → ByteArray) (L : List Int) : List Chg := L.map fun z => ⟨z, Q z.toNat⟩
theorem imgC_ok {n : Nat} {S : Nat → List UInt8} {Q : Nat → ByteArray} {L : List Int} (hQ : ∀ p, (Q p).size = 256) (h : Under n S Q L) : okC n (imgC Q L) := by
  have h2 := wE_ok (read_ok (s := mkA (S 1)) h.e).1
  have h1 : rL (mkA (S 1)) = L := h.l
  rw [h1] at h2
  have e : (imgC Q L).map Chg.page = L := by unfold imgC; rw [List.map_map]; exact List.map_id' L
  refine ⟨fun c hc => ?_, fun c hc => ?_, ?_, by unfold imgC; rw [List.length_map]; exact h2.1⟩
  · obtain ⟨z, hz, rfl⟩ := List.mem_map.1 hc
    exact h.r z hz
  · obtain ⟨z, hz, rfl⟩ := List.mem_map.1 hc
    exact hQ _
  · rw [e]
    have := h2.2
    unfold okP at this
    simp only [decide_eq_true_eq] at this
    exact this.2
theorem imgC_with {n : Nat} {Q : Nat → ByteArray} {L : List Int} (h : ∀ z ∈ L, 0 ≤ z ∧ z < (n : Int)) : withC Q (imgC Q L) = Q := by
  funext p
  by_cases e : (p : Int) ∈ L
  · have hc : (⟨p, Q p⟩ : Chg) ∈ imgC Q L := by
      unfold imgC
      rw [List.mem_map]
      exact ⟨p, e, by simp⟩
    exact withC_in _ Q p ⟨p, Q p⟩ (fun d hd he => by
      obtain ⟨z, hz, rfl⟩ := List.mem_map.1 hd
      have he' : z = (p : Int) := he
      subst he'
      simp) (.inl ⟨hc, rfl⟩)
  · exact withC_out _ Q p (fun c hc he => by
      obtain ⟨z, hz, rfl⟩ := List.mem_map.1 hc
      have he' : z = (p : Int) := he
      exact e (he' ▸ hz))
/-- Recovering. -/
theorem recover_pure (n : Nat) (D : Dv) (Q : Nat → ByteArray) (L : List Int) (hn : D.n = 126 + 4 * n) (hu : ∀ k, D.u k = none) (hy : says (D.s 0) = true) (hU : Under n D.s Q L) (hQ : ∀ p, (Q p).size = 256) :
    (D.goE (stW (imgC Q L)) = 0 → Clean n (D.go (stW (imgC Q L))).s Q ∧ ∀ k, (D.go (stW (imgC Q L))).u k = none) ∧
    (D.goE (stW (imgC Q L)) ≠ 0 → ∀ S, After (D.go (stW (imgC Q L))) S → Rec n S Q) := by
  have e : (imgC Q L).map Chg.page = L := by unfold imgC; rw [List.map_map]; exact List.map_id' L
  obtain ⟨a, b⟩ := settle_pure n D Q (imgC Q L) L hn hu hy hU (imgC_ok hQ hU) e
  rw [imgC_with hU.r] at a b
  exact ⟨a, fun h S hS => (b h S hS).elim id id⟩
theorem pgW_len (f : Nat → Nat) (x : ByteArray) : (pgW f x).length = 4 := by simp [pgW]
theorem plW_len (l : List Chg) : (plW l).length = 4 * l.length := by
  induction l with
  | nil => rfl
  | cons c l ih =>
    have e : plW (c :: l) = pgW (placeN c.page.toNat) c.data ++ plW l := by simp [plW]
    rw [e, List.length_append, pgW_len, ih, List.length_cons]
    omega
theorem imW_len (l : List Chg) : ∀ m, (imW m l).length = 4 * l.length := by
  induction l with
  | nil => intro m; rfl
  | cons c l ih =>
    intro m
    rw [imW, List.length_append, pgW_len, ih, List.length_cons]
    omega
theorem stW_len (l : List Chg) : (stW l).length = 4 * l.length + 3 := by
  unfold stW
  simp [plW_len]
theorem cmW_len (l m : List Chg) : (cmW l m).length = 4 * l.length + 4 * m.length + 7 := by
  unfold cmW jrW
  simp [imW_len, stW_len]
  omega

end Go.Proofs.YtmnedhlgplkfhaaGreat

namespace Go.Proofs.YtmnedhlgplkfhaaGreat
open Go Go.RowKit
set_option linter.unusedVariables false

def Chg.cells (c : Chg) : List Value := [.int .i64 c.page, .string c.data]
def ccs (l : List Chg) : List Value := l.flatMap Chg.cells
theorem ccs_len (l : List Chg) : (ccs l).length = l.length * 2 := by
  induction l with
  | nil => rfl
  | cons x l ih => simp only [ccs, List.flatMap_cons, List.length_append, List.length_cons] at *; rw [ih]; simp [Chg.cells]; omega
theorem ccs_append (l m : List Chg) : ccs (l ++ m) = ccs l ++ ccs m := by simp [ccs]
theorem ccs_one (l : List Chg) : ∀ u ∈ ccs l, u.oneCell' = true := by
  intro u hu
  obtain ⟨x, _, h⟩ := List.mem_flatMap.1 hu
  simp only [Chg.cells, List.mem_cons, List.not_mem_nil, or_false] at h
  rcases h with rfl | rfl <;> rfl
theorem ccs_at (l : List Chg) : ∀ (i j : Nat) (h : i < l.length), j < 2 → (ccs l)[i * 2 + j]? = (Chg.cells l[i])[j]? := by
  induction l with
  | nil => intro i j h; simp at h
  | cons x l ih =>
    intro i j h hj
    have e : ccs (x :: l) = Chg.cells x ++ ccs l := by simp [ccs]
    rw [e]
    rcases i with _ | i
    · rw [List.getElem?_append_left (by simp [Chg.cells]; omega)]
      simp
    · rw [List.getElem?_append_right (by simp [Chg.cells]; omega)]
      have h2 := ih i j (by simpa using h) hj
      have e2 : (i + 1) * 2 + j - (Chg.cells x).length = i * 2 + j := by simp [Chg.cells]; omega
      rw [e2, h2]
      simp
theorem ccs_set (l : List Chg) : ∀ (i : Nat) (c : Chg), i < l.length → ccs (l.set i c) = ((ccs l).set (i * 2) (.int .i64 c.page)).set (i * 2 + 1) (.string c.data) := by
  induction l with
  | nil => intro i c h; simp at h
  | cons x l ih =>
    intro i c h
    have e : ∀ (y : Chg) m, ccs (y :: m) = .int .i64 y.page :: .string y.data :: ccs m := fun y m => by simp [ccs, Chg.cells]
    rcases i with _ | i
    · rw [List.set_cons_zero, e, e]
      simp
    · rw [List.set_cons_succ, e, e, ih i c (by simpa using h), show (i + 1) * 2 = i * 2 + 1 + 1 by omega]
      simp
/-- The slice value v reads as the changes l, and lies in blocks of S. -/
def Chs (S : Nat → Prop) (w : World) (v : Value) (l : List Chg) : Prop :=
  ∃ a c, v = .slice a l.length c ∧ l.length ≤ c ∧ c ≤ maxLen ∧ ∀ i (h : i < l.length), ∃ b off, a = some ⟨b, off, none⟩ ∧ S b ∧ b < w.heap.size ∧
    w.cell? ⟨b, off + i * 2, none⟩ = some (.int .i64 l[i].page) ∧ w.cell? ⟨b, off + i * 2 + 1, none⟩ = some (.string l[i].data)
theorem Chs.nil (S : Nat → Prop) (w : World) : Chs S w (.slice none 0 0) [] := ⟨none, 0, rfl, Nat.le_refl _, Nat.zero_le _, fun i h => absurd h (by simp)⟩
theorem Chs.kept {S T : Nat → Prop} {w w' : World} {v : Value} {l : List Chg} (h : Chs S w v l) (hk : Kp T w w') (hS : ∀ k, S k → ¬ T k) : Chs S w' v l := by
  obtain ⟨a, c, rfl, h1, h2, h3⟩ := h
  refine ⟨a, c, rfl, h1, h2, fun i hi => ?_⟩
  obtain ⟨b, off, rfl, hb, hl, c0, c1⟩ := h3 i hi
  exact ⟨b, off, rfl, hb, Nat.lt_of_lt_of_le hl hk.size, hk.cell c0 (hS b hb), hk.cell c1 (hS b hb)⟩
theorem Chs.keptN {S : Nat → Prop} {w w' : World} {v : Value} {l : List Chg} (h : Chs S w v l) (hk : Kp none' w w') : Chs S w' v l := h.kept hk (fun _ _ h => h)
theorem Chs.mono {S T : Nat → Prop} {w : World} {v : Value} {l : List Chg} (h : Chs S w v l) (hS : ∀ k, k < w.heap.size → S k → T k) : Chs T w v l := by
  obtain ⟨a, c, rfl, h1, h2, h3⟩ := h
  refine ⟨a, c, rfl, h1, h2, fun i hi => ?_⟩
  obtain ⟨b, off, rfl, hb, hl, c0, c1⟩ := h3 i hi
  exact ⟨b, off, rfl, hS b hl hb, hl, c0, c1⟩
theorem Chs.shape {S : Nat → Prop} {w : World} {v : Value} {l : List Chg} (h : Chs S w v l) : ∃ a c, v = .slice a l.length c := by
  obtain ⟨a, c, rfl, _⟩ := h
  exact ⟨a, c, rfl⟩
/-- Changes that a call itself has laid (of either kind of Change: t). -/
def OwC (t : TypeId) (w : World) (base : Nat) (v : Value) (l : List Chg) : Prop := w.ownsRow base t 2 v l.length (ccs l)
theorem OwC.nil (t : TypeId) (w : World) (base : Nat) : OwC t w base (.slice none 0 0) [] := World.ownsRow_nil w base t 2
theorem OwC.lt {t : TypeId} {w : World} {base : Nat} {v : Value} {l : List Chg} (h : OwC t w base v l) : ∀ k, v.ownBlock = some k → base ≤ k ∧ k < w.heap.size := World.ownsRow.lt h
theorem OwC.kept {t : TypeId} {w w' : World} {base : Nat} {v : Value} {l : List Chg} {S : Nat → Prop} (h : OwC t w base v l) (hk : Kp S w w') (hS : ∀ k, v.ownBlock = some k → ¬ S k) : OwC t w' base v l := by
  rcases h.2 with ⟨rfl, h0⟩ | ⟨g, cap, cur, rfl, hb, hg, h1, h2, h3, h4⟩
  · exact ⟨h.1, .inl ⟨rfl, h0⟩⟩
  · have hlt : g < w.heap.size := (Array.getElem?_eq_some_iff.1 hg).1
    exact ⟨h.1, .inr ⟨g, cap, cur, rfl, hb, by rw [hk.block g hlt (hS g rfl)]; exact hg, h1, h2, h3, h4⟩⟩
theorem OwC.keptN {t : TypeId} {w w' : World} {base : Nat} {v : Value} {l : List Chg} (h : OwC t w base v l) (hk : Kp none' w w') : OwC t w' base v l := h.kept hk (fun _ _ h => h)
theorem OwC.mono {t : TypeId} {w : World} {base base' : Nat} {v : Value} {l : List Chg} (h : OwC t w base v l) (hb : base' ≤ base) : OwC t w base' v l := by
  rcases h.2 with ⟨rfl, h0⟩ | ⟨g, cap, cur, rfl, hb', hg, h1, h2, h3, h4⟩
  · exact ⟨h.1, .inl ⟨rfl, h0⟩⟩
  · exact ⟨h.1, .inr ⟨g, cap, cur, rfl, Nat.le_trans hb hb', hg, h1, h2, h3, h4⟩⟩
theorem OwC.chs {t : TypeId} {w : World} {base : Nat} {v : Value} {l : List Chg} (h : OwC t w base v l) : Chs (fun k => base ≤ k) w v l := by
  have h' := h
  rcases h.2 with ⟨rfl, h0⟩ | ⟨g, cap, cur, rfl, hb, hg, hnc, hcm, hcs, htake⟩
  · have : l = [] := List.eq_nil_of_length_eq_zero h0
    subst this
    exact Chs.nil _ w
  · refine ⟨some ⟨g, 0, none⟩, cap, rfl, hnc, hcm, fun i hi => ⟨g, 0, rfl, hb, (Array.getElem?_eq_some_iff.1 hg).1, ?_⟩⟩
    have hc := World.ownsRow.cells h' (g := g) rfl
    have plain : ∀ q, (⟨g, 0, none⟩ : Addr).add q = ⟨g, 0 + q, none⟩ := by intro q; unfold Addr.add; split <;> simp_all
    have g0 := hc (i * 2 + 0) _ (by rw [ccs_at l i 0 hi (by omega)]; rfl)
    have g1 := hc (i * 2 + 1) _ (by rw [ccs_at l i 1 hi (by omega)]; rfl)
    rw [plain] at g0 g1
    exact ⟨g0, g1⟩
theorem OwC.at {t : TypeId} {w : World} {base g n cap : Nat} {l : List Chg} (h : OwC t w base (.slice (some ⟨g, 0, none⟩) n cap) l) (i : Nat) (hi : i < l.length) : w.there g (i * 2) 2 ∧ base ≤ g ∧ n = l.length := by
  have h' := h
  rcases h.2 with ⟨h1, _⟩ | ⟨g', cap', cur, h1, hb, hg, hnc, hcm, hcs, htake⟩
  · cases h1
  · cases h1
    refine ⟨fun j hj => ?_, hb, rfl⟩
    have hsz : l.length * 2 ≤ cap * 2 := Nat.mul_le_mul_right _ hnc
    constructor
    · rw [cell_of_row _ _ _ _ _ _ hg]
      have : i * 2 + j < cur.size := by omega
      simp [this]
    · unfold World.frozen?
      rw [show w.heap[(⟨g, i * 2 + j, none⟩ : Addr).block]? = _ from hg]
      simp
/-- What a store of a change asks of its two cells. -/
theorem OwC.facts {t : TypeId} {w : World} {base g n cap : Nat} {l : List Chg} (h : OwC t w base (.slice (some ⟨g, 0, none⟩) n cap) l) (i : Nat) (hi : i < l.length) (v : Value) :
    ∃ x0 x1, w.cell? ⟨g, i * 2, none⟩ = some x0 ∧ w.frozen? ⟨g, i * 2, none⟩ = false ∧ (w.setCell ⟨g, i * 2, none⟩ v).cell? ⟨g, i * 2 + 1, none⟩ = some x1 ∧ (w.setCell ⟨g, i * 2, none⟩ v).frozen? ⟨g, i * 2 + 1, none⟩ = false := by
  obtain ⟨ht, _, _⟩ := h.at i hi
  obtain ⟨a0, a1⟩ := ht 0 (by omega)
  obtain ⟨b0, b1⟩ := ht 1 (by omega)
  obtain ⟨x0, hx0⟩ := Option.isSome_iff_exists.1 a0
  obtain ⟨x1, hx1⟩ := Option.isSome_iff_exists.1 b0
  refine ⟨x0, x1, hx0, a1, ?_, ?_⟩
  · rw [World.cell?_setCell_other (h := fun e => by have := congrArg Addr.off e; simp at this)]
    exact hx1
  · rw [World.frozen?_setCell]
    exact b1
/-- A change is stored whole. -/
theorem OwC.stored {t : TypeId} {w : World} {base g n cap : Nat} {l : List Chg} (h : OwC t w base (.slice (some ⟨g, 0, none⟩) n cap) l) (i : Nat) (hi : i < l.length) (c : Chg) :
    OwC t (w.setCells g (i * 2) c.cells) base (.slice (some ⟨g, 0, none⟩) n cap) (l.set i c) ∧ w.grownBy (w.setCells g (i * 2) c.cells) (some g) := by
  obtain ⟨_, _, rfl⟩ := h.at i hi
  have h1 := World.ownsRow.stored (g := g) (cap := cap) h (i * 2) (.int .i64 c.page)
  have h2 := World.ownsRow.stored (g := g) (cap := cap) h1.1 (i * 2 + 1) (.string c.data)
  have e : w.setCells g (i * 2) c.cells = (w.setCell ⟨g, i * 2, none⟩ (.int .i64 c.page)).setCell ⟨g, i * 2 + 1, none⟩ (.string c.data) := rfl
  rw [e]
  refine ⟨?_, ?_⟩
  · unfold OwC
    rw [ccs_set l i c hi, List.length_set]
    exact h2.1
  · exact h1.2.trans h2.2

/-- A pager: its four cells, the changes that it keeps. -/
structure Pag (w : World) (g : Nat) (p : Dp) (n : Nat) (c : Int) (bv : Value) (bl : List Chg) : Prop where
  c0 : w.cell? ⟨g, 0, none⟩ = some (.pointer (some ⟨p.d, 0, none⟩))
  c1 : w.cell? ⟨g, 1, none⟩ = some (.int .i64 n)
  c2 : w.cell? ⟨g, 2, none⟩ = some (.int .i64 c)
  c3 : w.cell? ⟨g, 3, none⟩ = some bv
  fr : ∀ j, w.frozen? ⟨g, j, none⟩ = false
  bs : Chs (fun k => ¬ p.mem k ∧ k ≠ g) w bv bl
  gp : ¬ p.mem g
theorem Pag.lt {w : World} {g : Nat} {p : Dp} {n : Nat} {c : Int} {bv : Value} {bl : List Chg} (h : Pag w g p n c bv bl) : g < w.heap.size := lt_of_cell h.c0
theorem Pag.kept {w w' : World} {g : Nat} {p : Dp} {n : Nat} {c : Int} {bv : Value} {bl : List Chg} (h : Pag w g p n c bv bl) (hk : Kp p.mem w w') : Pag w' g p n c bv bl :=
  ⟨hk.cell h.c0 h.gp, hk.cell h.c1 h.gp, hk.cell h.c2 h.gp, hk.cell h.c3 h.gp, fun j => by rw [hk.frozen h.lt h.gp]; exact h.fr j, h.bs.kept hk (fun _ h => h.1), h.gp⟩
theorem Pag.keptN {w w' : World} {g : Nat} {p : Dp} {n : Nat} {c : Int} {bv : Value} {bl : List Chg} (h : Pag w g p n c bv bl) (hk : Kp none' w w') : Pag w' g p n c bv bl := h.kept (hk.mono (fun _ _ h => h.elim))
/-- .. while other pagers of its device are written. -/
theorem Pag.keptS {w w' : World} {g : Nat} {p : Dp} {n : Nat} {c : Int} {bv : Value} {bl : List Chg} {S : Nat → Prop} (h : Pag w g p n c bv bl) (hk : Kp S w w') (hg : ¬ S g) (hS : ∀ k, ¬ p.mem k → k ≠ g → ¬ S k) : Pag w' g p n c bv bl :=
  ⟨hk.cell h.c0 hg, hk.cell h.c1 hg, hk.cell h.c2 hg, hk.cell h.c3 hg, fun j => by rw [hk.frozen h.lt hg]; exact h.fr j, h.bs.kept hk (fun k h => hS k h.1 h.2), h.gp⟩

end Go.Proofs.YtmnedhlgplkfhaaGreat

namespace Go.Proofs.YtmnedhlgplkfhaaGreat
open Go.RowKit
set_option linter.unusedVariables false

set_option maxHeartbeats 400000 in
theorem psize_nil (w : World) : Calls Tryz.prog 51 #[.pointer none] w fun e w' => e = .returned (.int .i64 0) ∧ w' = w := by
  go_enter Tryz.func51, Tryz.ntmps51
  go_wp2
  go_ret
  exact ⟨rfl, rfl⟩
set_option maxHeartbeats 400000 in
theorem pcommits_nil (w : World) : Calls Tryz.prog 76 #[.pointer none] w fun e w' => e = .returned (.int .i64 0) ∧ w' = w := by
  go_enter Tryz.func76, Tryz.ntmps76
  go_wp2
  go_ret
  exact ⟨rfl, rfl⟩
set_option maxHeartbeats 400000 in
theorem psize_any (g : Nat) (n : Int) (w : World) (h1 : w.cell? ⟨g, 1, none⟩ = some (.int .i64 n)) : Calls Tryz.prog 51 #[.pointer (some ⟨g, 0, none⟩)] w fun e w' => e = .returned (.int .i64 n) ∧ w' = w := by
  go_enter Tryz.func51, Tryz.ntmps51
  go_wp2
  go_ret
  exact ⟨rfl, rfl⟩
set_option maxHeartbeats 400000 in
theorem pcommits_any (g : Nat) (n : Int) (w : World) (h1 : w.cell? ⟨g, 2, none⟩ = some (.int .i64 n)) : Calls Tryz.prog 76 #[.pointer (some ⟨g, 0, none⟩)] w fun e w' => e = .returned (.int .i64 n) ∧ w' = w := by
  go_enter Tryz.func76, Tryz.ntmps76
  go_wp2
  go_ret
  exact ⟨rfl, rfl⟩
set_option maxHeartbeats 400000 in
theorem phas_any (g n : Nat) (i : Int) (w : World) (h1 : w.cell? ⟨g, 1, none⟩ = some (.int .i64 n)) : Calls Tryz.prog 68 #[.pointer (some ⟨g, 0, none⟩), .int .i64 i] w fun e w' => e = .returned (.bool (hasB n i)) ∧ w' = w := by
  by_cases h0 : 0 ≤ i
  all_goals
    go_enter Tryz.func68, Tryz.ntmps68
    go_wp2_with (go_at_call 51; refine (psize_any _ _ _ h1).mono ?_; rintro e w' ⟨rfl, rfl⟩)
    go_ret
    exact ⟨by simp [hasB, h0] <;> omega, rfl⟩
/-- All of them are there. -/
def allB (n : Nat) (l : List Int) : Bool := l.all (hasB n)
set_option maxRecDepth 100000 in
set_option maxHeartbeats 400000 in
theorem hasAll_any (g n : Nat) (v : Value) (l : List Int) (B : Nat) (w : World) (h1 : w.cell? ⟨g, 1, none⟩ = some (.int .i64 n)) (hS : Sl (Value.int .i64) B w v l) (hl : l.length ≤ 1000000) :
    Calls Tryz.prog 105 #[.pointer (some ⟨g, 0, none⟩), v] w fun e w' => e = .returned (.bool (allB n l)) ∧ Kp none' w w' := by
  obtain ⟨a, c, rfl, _, _, ha⟩ := hS
  go_enter Tryz.func105, Tryz.ntmps105
  go_wp2
  go_loopw [9] (fun t wr => ∃ k : Nat, k ≤ l.length ∧ t = .int .i64 k ∧ (∀ z ∈ l.take k, hasB n z = true) ∧ Kp none' w wr) (fun t _ => l.length - (intOf t).toNat)
  case atStart => exact ⟨0, Nat.zero_le _, rfl, by simp, Kp.refl _ _⟩
  case round =>
    obtain ⟨k, hk, rfl, hA, hK⟩ := hrel
    have h1r := hK.cell h1 (fun h => h)
    by_cases hlt : k < l.length
    · obtain ⟨b, o, rfl, _, hc'⟩ := ha k hlt
      have hc := hK.cell hc' (fun h => h)
      clear hc'
      have hk' : (k : Int) < (l.length : Int) := by omega
      have hm : l[k] ∈ l := List.getElem_mem hlt
      have HT : Hid (l.take (k + 1) = l.take k ++ [l[k]]) := List.take_succ_eq_append_getElem hlt
      generalize l[k] = x at *
      by_cases hx : hasB n x = true
      · go_wp2_with (go_at_call 68; refine (phas_any _ _ _ _ h1r).mono ?_; rintro e w' ⟨rfl, rfl⟩; rw [hx])
        go_roundw
        case rel =>
          refine ⟨k + 1, by omega, by go_num, ?_, hK⟩
          rw [HT.out]
          intro z hz
          rcases List.mem_append.1 hz with hz | hz
          · exact hA z hz
          · rw [List.mem_singleton.1 hz]; exact hx
        case measure => simp [intOf]; omega
      · have hx' : hasB n x = false := by simpa using hx
        have hF : allB n l = false := by
          unfold allB
          rw [List.all_eq_false]
          exact ⟨x, hm, by simp [hx']⟩
        go_wp2_with (go_at_call 68; refine (phas_any _ _ _ _ h1r).mono ?_; rintro e w' ⟨rfl, rfl⟩; rw [hx'])
        go_ret
        exact ⟨by rw [hF]; rfl, hK⟩
    · obtain rfl : k = l.length := by omega
      have hT : allB n l = true := by
        unfold allB
        rw [List.all_eq_true]
        rw [List.take_length] at hA
        exact hA
      go_wp2
      go_ret
      exact ⟨by rw [hT]; rfl, hK⟩

/-- A change in a variable of its own. -/
theorem chg_var (w : World) (x : Chg) (t : TypeId) : (w.alloc (.cells #[.int .i64 x.page, .string x.data] t)).cell? ⟨w.heap.size, 0, none⟩ = some (.int .i64 x.page) ∧ (w.alloc (.cells #[.int .i64 x.page, .string x.data] t)).cell? ⟨w.heap.size, 1, none⟩ = some (.string x.data) := by
  have hb : (w.alloc (.cells #[.int .i64 x.page, .string x.data] t)).heap[w.heap.size]? = some (.cells #[.int .i64 x.page, .string x.data] t (0, 0)) := heap_alloc_new w _
  exact ⟨by rw [cell_of_row _ _ _ _ _ _ hb]; rfl, by rw [cell_of_row _ _ _ _ _ _ hb]; rfl⟩
set_option maxRecDepth 100000 in
set_option maxHeartbeats 400000 in
theorem pagesOf_any (v : Value) (l : List Chg) (S : Nat → Prop) (w : World) (hS : Chs S w v l) (hl : l.length ≤ 1000000) :
    Calls Tryz.prog 114 #[v] w fun e w' => ∃ u, e = .returned u ∧ Ow (Value.int .i64) 3 w' w.heap.size u (l.map Chg.page) ∧ Kp none' w w' := by
  obtain ⟨a, c, rfl, _, _, ha'⟩ := hS
  have ha := hide ha'
  clear ha'
  obtain ⟨wa, hmk, hO, hka⟩ := make_ints w l.length hl
  obtain ⟨B, HB⟩ : ∃ B, Hid (w.heap.size = B) := ⟨_, rfl⟩
  rw [HB.out] at hmk hO
  go_enter Tryz.func114, Tryz.ntmps114
  go_upto_region 2 with (at_make; refine wpList_make_at rfl (.tmp 7) (.tmp 7) 41 rfl _ _ rfl rfl hmk ?_)
  clear hmk
  go_wp2
  go_loopw [11] (fun t wr => ∃ k : Nat, k ≤ l.length ∧ t = .int .i64 k ∧ Ow (Value.int .i64) 3 wr B (.slice (some ⟨B, 0, none⟩) l.length l.length) ((l.map Chg.page).take k ++ List.replicate (l.length - k) 0) ∧ Kp none' w wr) (fun t _ => l.length - (intOf t).toNat)
  case atStart => exact ⟨0, Nat.zero_le _, rfl, by simpa using hO, hka⟩
  case round =>
    obtain ⟨k, hk, rfl, hO, hK⟩ := hrel
    by_cases hlt : k < l.length
    · obtain ⟨b, o, rfl, _, hbl, hc0, hc1⟩ := ha.out k hlt
      have hk' : (k : Int) < (l.length : Int) := by omega
      have d0 := hK.cell hc0 (fun h => h)
      have d1 := hK.cell hc1 (fun h => h)
      have ht : (l.map Chg.page).take (k + 1) = (l.map Chg.page).take k ++ [l[k].page] := by rw [List.take_succ_eq_append_getElem (by simpa using hlt)]; simp
      have hlen : ((l.map Chg.page).take k).length = k := by simp; omega
      obtain ⟨m, hm⟩ : ∃ m, l.length - k = m + 1 := ⟨l.length - k - 1, by omega⟩
      have hm2 : l.length - (k + 1) = m := by omega
      rw [hm] at hO
      have hka := Kp.alloc none' wr (.cells #[.int .i64 l[k].page, .string l[k].data] 76)
      have hv := chg_var wr l[k] 76
      generalize l[k] = x at *
      obtain ⟨wb, Hb⟩ : ∃ wb, Hid (wr.alloc (.cells #[.int .i64 x.page, .string x.data] 76) = wb) := ⟨_, rfl⟩
      have HO := hide hO
      clear hO ha
      go_upto_region 5 with fail
      rw [Hb.out]
      rw [Hb.out] at hv hka
      have hO := HO.out.keptN hka
      have hcl := hO.cellAt k (by rw [List.length_append, hlen, List.length_replicate]; omega)
      have q1 := hcl.1
      have q2 := hcl.2
      have hst := hO.stored k x.page
      have e1 := set_next ((l.map Chg.page).take k) m x.page
      rw [hlen] at e1
      rw [e1, ← ht] at hst
      have v0 := hv.1
      generalize wr.heap.size = gg at *
      have HST := hide hst
      clear hcl e1 hst hO hm HO hv d0 d1 hc0 hc1
      go_wp2
      go_roundw
      case rel => exact ⟨k + 1, by omega, by go_num, by rw [hm2]; exact HST.out.1, (hK.then hka).trans (Kp.ofGrown HST.out.2 (S := only B) (fun k he _ => by cases he; rfl)) (fun _ _ h => h) (fun k hk he => absurd hk (by have := HB.out; unfold only at he; omega))⟩
      case measure => simp [intOf]; omega
    · obtain rfl : k = l.length := by omega
      go_wp2
      go_ret
      refine ⟨_, rfl, ?_, hK⟩
      have : (l.map Chg.page).take l.length ++ List.replicate (l.length - l.length) 0 = l.map Chg.page := by rw [Nat.sub_self, List.take_of_length_le (by simp)]; simp
      rw [this] at hO
      exact hO.mono (by have := HB.out; omega)

end Go.Proofs.YtmnedhlgplkfhaaGreat

namespace Go.Proofs.YtmnedhlgplkfhaaGreat
open Go.RowKit
set_option linter.unusedVariables false

theorem rdL_in (D : Dv) (k : Nat) (h : k < D.n) : rdL D (k : Int) = D.at k := by
  have : hasB D.n (k : Int) = true := by simp [hasB]; omega
  simp [rdL, this]
theorem secL_list (s : ByteArray) (j : Nat) : secL s j = (s.data.toList.drop (j * 64)).take 64 := by
  unfold secL cutAt
  rw [ext_list]
  congr 1
  omega
/-- What is read of four sectors. -/
def lkL (D : Dv) (f : Nat → Nat) (k : Nat) : List ByteArray := (List.range k).map fun j => mkA (D.at (f j))
theorem lkL_len (D : Dv) (f : Nat → Nat) (k : Nat) : (lkL D f k).length = k := by simp [lkL]
theorem lkL_succ (D : Dv) (f : Nat → Nat) (k : Nat) : lkL D f (k + 1) = lkL D f k ++ [mkA (D.at (f k))] := by simp [lkL, List.range_succ]
def lookS (D : Dv) (f : Nat → Nat) : ByteArray := joinS (lkL D f 4)
/-- Where they are a page's sectors, it is the page. -/
theorem look_page {D : Dv} {f : Nat → Nat} {x : ByteArray} (hx : x.size = 256) (h : ∀ j, j < 4 → D.at (f j) = secL x j) : lookS D f = x := by
  have e : lkL D f 4 = [mkA (secL x 0), mkA (secL x 1), mkA (secL x 2), mkA (secL x 3)] := by
    rw [← h 0 (by omega), ← h 1 (by omega), ← h 2 (by omega), ← h 3 (by omega)]
    rfl
  have hz : ∀ j, j < 4 → (mkA (secL x j)).size = 64 := fun j hj => by
    show (secL x j).toArray.size = 64
    rw [List.size_toArray, secL_len hx hj]
  have ho : okJ (lkL D f 4) = true := by
    unfold okJ
    rw [e]
    simp only [decide_eq_true_eq]
    refine ⟨rfl, fun s hs => ?_⟩
    simp only [List.mem_cons, List.not_mem_nil, or_false] at hs
    rcases hs with rfl | rfl | rfl | rfl
    · exact hz 0 (by omega)
    · exact hz 1 (by omega)
    · exact hz 2 (by omega)
    · exact hz 3 (by omega)
  have hl : x.data.toList.length = 256 := by rw [Array.length_toList]; exact hx
  have hc : catB (lkL D f 4) = x.data.toList := by
    rw [e]
    unfold catB mkA
    simp only [List.flatMap_cons, List.flatMap_nil, List.append_nil, secL_list]
    have step : ∀ k : Nat, (x.data.toList.drop (k * 64)).take 64 ++ x.data.toList.drop ((k + 1) * 64) = x.data.toList.drop (k * 64) := fun k => by
      have := List.take_append_drop 64 (x.data.toList.drop (k * 64))
      rw [List.drop_drop] at this
      rw [show (k + 1) * 64 = k * 64 + 64 by omega]
      exact this
    have s3 : (x.data.toList.drop (3 * 64)).take 64 = x.data.toList.drop (3 * 64) := List.take_of_length_le (by rw [List.length_drop]; omega)
    rw [s3, show (3 * 64) = (2 + 1) * 64 from rfl, step 2, show (2 * 64) = (1 + 1) * 64 from rfl, step 1, show (1 * 64) = (0 + 1) * 64 from rfl, step 0]
    simp
  unfold lookS joinS
  rw [if_pos ho, hc]
set_option maxRecDepth 100000 in
set_option maxHeartbeats 800000 in
theorem look_place (g k : Nat) (p : Dp) (D : Dv) (w : World) (hc0 : w.cell? ⟨g, 0, none⟩ = some (.pointer (some ⟨p.d, 0, none⟩))) (hD : Dev w p D) (hk : k ≤ 160) (hn : ∀ j, j < 4 → placeN k j < D.n) :
    Calls Tryz.prog 69 #[.pointer (some ⟨g, 0, none⟩), .func (.func 70) #[] #[], .int .i64 k] w fun e w' => e = .returned (.string (lookS D (placeN k))) ∧ Kp none' w w' := by
  have hgl : g < w.heap.size := lt_of_cell hc0
  obtain ⟨wa, hmk, hO, hka⟩ := make_strs w 4 (by omega)
  rw [show ((4 : Nat) : Int) = 4 from rfl] at hmk
  obtain ⟨B, HB⟩ : ∃ B, Hid (w.heap.size = B) := ⟨_, rfl⟩
  rw [HB.out] at hmk hO
  have hgB : g ≠ B := by have := HB.out; omega
  go_enter Tryz.func69, Tryz.ntmps69
  go_upto_region 2 with (at_make; refine wpList_make_at rfl (.const (.int .i64 4)) (.const (.int .i64 4)) 43 rfl _ _ rfl rfl hmk ?_)
  clear hmk
  go_wp2
  go_loopw [14] (fun t wr => ∃ j : Nat, j ≤ 4 ∧ t = .int .i64 j ∧ Ow Value.string 9 wr B (.slice (some ⟨B, 0, none⟩) 4 4) (lkL D (placeN k) j ++ List.replicate (4 - j) ByteArray.empty) ∧ Kp none' w wr) (fun t _ => 4 - (intOf t).toNat)
  case atStart => exact ⟨0, Nat.zero_le _, rfl, hO, hka⟩
  case round =>
    obtain ⟨j, hj, rfl, hO, hK⟩ := hrel
    by_cases hlt : j < 4
    · have hji : (j : Int) < 4 := by omega
      obtain ⟨m, hm⟩ : ∃ m, 4 - j = m + 1 := ⟨4 - j - 1, by omega⟩
      have Hm : Hid (4 - (j + 1) = m) := by show _ = _; omega
      rw [hm] at hO
      have hcr : wr.drew.cell? ⟨g, 0, none⟩ = some (.pointer (some ⟨p.d, 0, none⟩)) := hK.cell hc0 (fun h => h)
      have hDr := (hD.keptN hK).drew
      have HW : Hid (wrap64 (126 + 4 * (k : Int) + (j : Int)) = (placeN k j : Int)) := by show _ = _; unfold wrap64 placeN; omega
      have HR : Hid (rdL D (placeN k j : Int) = D.at (placeN k j)) := rdL_in D _ (hn j hlt)
      have HS : Hid (lkL D (placeN k) (j + 1) = lkL D (placeN k) j ++ [mkA (D.at (placeN k j))]) := lkL_succ _ _ _
      have HL : Hid ((lkL D (placeN k) j).length = j) := lkL_len _ _ _
      obtain ⟨X, HX⟩ : ∃ X, Hid ((⟨(D.at (placeN k j)).toArray⟩ : ByteArray) = X) := ⟨_, rfl⟩
      rw [show mkA (D.at (placeN k j)) = (⟨(D.at (placeN k j)).toArray⟩ : ByteArray) from rfl, HX.out] at HS
      obtain ⟨q, HQ⟩ : ∃ q, Hid (placeN k j = q) := ⟨_, rfl⟩
      rw [HQ.out] at HW HR HX
      have hjl : j < (lkL D (placeN k) j ++ List.replicate (m + 1) ByteArray.empty).length := by rw [List.length_append, HL.out, List.length_replicate]; omega
      have k1 : ∀ W : World, Kp none' wr W → ∃ v, W.cell? ⟨B, j, none⟩ = some (.string v) := fun W h => ⟨_, ((hO.keptN h).cellAt j hjl).1⟩
      have k2 : ∀ W : World, Kp none' wr W → W.frozen? ⟨B, j, none⟩ = false := fun W h => ((hO.keptN h).cellAt j hjl).2
      have dr : Kp none' wr wr.drew := Kp.drew _ _
      have kS : ∀ W : World, W.cell? ⟨g, 0, none⟩ = some (.pointer (some ⟨p.d, 0, none⟩)) → (W.setCell ⟨B, j, none⟩ (.string X)).cell? ⟨g, 0, none⟩ = some (.pointer (some ⟨p.d, 0, none⟩)) := fun W h => (Kp.setCell (S := only B) W B _ _ rfl).cell h hgB
      have HO := hide hO
      clear hO hD
      go_upto_region 5 with fail
      go_region_held_law (fun W => W.cell? ⟨g, 0, none⟩ = some (.pointer (some ⟨p.d, 0, none⟩))) (first | assumption | exact kS _ (by assumption)) (first
        | (go_at_call 70; refine (place_any _ _ _).mono ?_; rintro e w' ⟨rfl, rfl⟩; rw [HW.out])
        | (go_at_call 82; refine (read_any p D _ _ hDr).mono ?_; rintro e w2 ⟨rfl, hk2⟩; rw [HR.out, HX.out]; have S2 : Kp none' wr w2 := dr.then hk2; have T0 : w2.cell? ⟨g, 0, none⟩ = some (.pointer (some ⟨p.d, 0, none⟩)) := hk2.cell hcr (fun h => h); obtain ⟨v1, T1⟩ := k1 _ S2; have T2 := k2 _ S2)
        | fail)
      have hO2 := HO.out.keptN S2
      have hst := hO2.stored j X
      have e1 := set_nextS (lkL D (placeN k) j) m X
      rw [HL.out] at e1
      rw [e1, ← HS.out] at hst
      have HST := hide hst
      clear hst hO2 e1 k1 k2 kS T0 T1 T2
      go_wp2
      go_roundw
      case rel => exact ⟨j + 1, by omega, by go_num, by rw [Hm.out]; exact HST.out.1, (hK.then S2).trans (Kp.ofGrown HST.out.2 (S := only B) (fun k he _ => by cases he; rfl)) (fun _ _ h => h) (fun k hk he => absurd hk (by have := HB.out; unfold only at he; omega))⟩
      case measure => simp [intOf]; omega
    · obtain rfl : j = 4 := by omega
      have e4 : lkL D (placeN k) 4 ++ List.replicate (4 - 4) ByteArray.empty = lkL D (placeN k) 4 := by simp
      rw [e4] at hO
      have hSl := hO.sl
      have HJ : Hid (joinS (lkL D (placeN k) 4) = lookS D (placeN k)) := rfl
      go_wp2_with (go_at_call 83; refine (join_any _ _ _ _ hSl (Nat.le_refl _)).mono ?_; rintro e w2 ⟨rfl, hk2⟩; rw [HJ.out])
      go_ret
      exact ⟨rfl, hK.then hk2⟩
set_option maxRecDepth 100000 in
set_option maxHeartbeats 800000 in
theorem look_image (g k : Nat) (p : Dp) (D : Dv) (w : World) (hc0 : w.cell? ⟨g, 0, none⟩ = some (.pointer (some ⟨p.d, 0, none⟩))) (hD : Dev w p D) (hk : k ≤ 160) (hn : ∀ j, j < 4 → imageN k j < D.n) :
    Calls Tryz.prog 69 #[.pointer (some ⟨g, 0, none⟩), .func (.func 106) #[] #[], .int .i64 k] w fun e w' => e = .returned (.string (lookS D (imageN k))) ∧ Kp none' w w' := by
  have hgl : g < w.heap.size := lt_of_cell hc0
  obtain ⟨wa, hmk, hO, hka⟩ := make_strs w 4 (by omega)
  rw [show ((4 : Nat) : Int) = 4 from rfl] at hmk
  obtain ⟨B, HB⟩ : ∃ B, Hid (w.heap.size = B) := ⟨_, rfl⟩
  rw [HB.out] at hmk hO
  have hgB : g ≠ B := by have := HB.out; omega
  go_enter Tryz.func69, Tryz.ntmps69
  go_upto_region 2 with (at_make; refine wpList_make_at rfl (.const (.int .i64 4)) (.const (.int .i64 4)) 43 rfl _ _ rfl rfl hmk ?_)
  clear hmk
  go_wp2
  go_loopw [14] (fun t wr => ∃ j : Nat, j ≤ 4 ∧ t = .int .i64 j ∧ Ow Value.string 9 wr B (.slice (some ⟨B, 0, none⟩) 4 4) (lkL D (imageN k) j ++ List.replicate (4 - j) ByteArray.empty) ∧ Kp none' w wr) (fun t _ => 4 - (intOf t).toNat)
  case atStart => exact ⟨0, Nat.zero_le _, rfl, hO, hka⟩
  case round =>
    obtain ⟨j, hj, rfl, hO, hK⟩ := hrel
    by_cases hlt : j < 4
    · have hji : (j : Int) < 4 := by omega
      obtain ⟨m, hm⟩ : ∃ m, 4 - j = m + 1 := ⟨4 - j - 1, by omega⟩
      have Hm : Hid (4 - (j + 1) = m) := by show _ = _; omega
      rw [hm] at hO
      have hcr : wr.drew.cell? ⟨g, 0, none⟩ = some (.pointer (some ⟨p.d, 0, none⟩)) := hK.cell hc0 (fun h => h)
      have hDr := (hD.keptN hK).drew
      have HW : Hid (wrap64 (2 + 4 * (k : Int) + (j : Int)) = (imageN k j : Int)) := by show _ = _; unfold wrap64 imageN; omega
      have HR : Hid (rdL D (imageN k j : Int) = D.at (imageN k j)) := rdL_in D _ (hn j hlt)
      have HS : Hid (lkL D (imageN k) (j + 1) = lkL D (imageN k) j ++ [mkA (D.at (imageN k j))]) := lkL_succ _ _ _
      have HL : Hid ((lkL D (imageN k) j).length = j) := lkL_len _ _ _
      obtain ⟨X, HX⟩ : ∃ X, Hid ((⟨(D.at (imageN k j)).toArray⟩ : ByteArray) = X) := ⟨_, rfl⟩
      rw [show mkA (D.at (imageN k j)) = (⟨(D.at (imageN k j)).toArray⟩ : ByteArray) from rfl, HX.out] at HS
      obtain ⟨q, HQ⟩ : ∃ q, Hid (imageN k j = q) := ⟨_, rfl⟩
      rw [HQ.out] at HW HR HX
      have hjl : j < (lkL D (imageN k) j ++ List.replicate (m + 1) ByteArray.empty).length := by rw [List.length_append, HL.out, List.length_replicate]; omega
      have k1 : ∀ W : World, Kp none' wr W → ∃ v, W.cell? ⟨B, j, none⟩ = some (.string v) := fun W h => ⟨_, ((hO.keptN h).cellAt j hjl).1⟩
      have k2 : ∀ W : World, Kp none' wr W → W.frozen? ⟨B, j, none⟩ = false := fun W h => ((hO.keptN h).cellAt j hjl).2
      have dr : Kp none' wr wr.drew := Kp.drew _ _
      have kS : ∀ W : World, W.cell? ⟨g, 0, none⟩ = some (.pointer (some ⟨p.d, 0, none⟩)) → (W.setCell ⟨B, j, none⟩ (.string X)).cell? ⟨g, 0, none⟩ = some (.pointer (some ⟨p.d, 0, none⟩)) := fun W h => (Kp.setCell (S := only B) W B _ _ rfl).cell h hgB
      have HO := hide hO
      clear hO hD
      go_upto_region 5 with fail
      go_region_held_law (fun W => W.cell? ⟨g, 0, none⟩ = some (.pointer (some ⟨p.d, 0, none⟩))) (first | assumption | exact kS _ (by assumption)) (first
        | (go_at_call 106; refine (image_any _ _ _).mono ?_; rintro e w' ⟨rfl, rfl⟩; rw [HW.out])
        | (go_at_call 82; refine (read_any p D _ _ hDr).mono ?_; rintro e w2 ⟨rfl, hk2⟩; rw [HR.out, HX.out]; have S2 : Kp none' wr w2 := dr.then hk2; have T0 : w2.cell? ⟨g, 0, none⟩ = some (.pointer (some ⟨p.d, 0, none⟩)) := hk2.cell hcr (fun h => h); obtain ⟨v1, T1⟩ := k1 _ S2; have T2 := k2 _ S2)
        | fail)
      have hO2 := HO.out.keptN S2
      have hst := hO2.stored j X
      have e1 := set_nextS (lkL D (imageN k) j) m X
      rw [HL.out] at e1
      rw [e1, ← HS.out] at hst
      have HST := hide hst
      clear hst hO2 e1 k1 k2 kS T0 T1 T2
      go_wp2
      go_roundw
      case rel => exact ⟨j + 1, by omega, by go_num, by rw [Hm.out]; exact HST.out.1, (hK.then S2).trans (Kp.ofGrown HST.out.2 (S := only B) (fun k he _ => by cases he; rfl)) (fun _ _ h => h) (fun k hk he => absurd hk (by have := HB.out; unfold only at he; omega))⟩
      case measure => simp [intOf]; omega
    · obtain rfl : j = 4 := by omega
      have e4 : lkL D (imageN k) 4 ++ List.replicate (4 - 4) ByteArray.empty = lkL D (imageN k) 4 := by simp
      rw [e4] at hO
      have hSl := hO.sl
      have HJ : Hid (joinS (lkL D (imageN k) 4) = lookS D (imageN k)) := rfl
      go_wp2_with (go_at_call 83; refine (join_any _ _ _ _ hSl (Nat.le_refl _)).mono ?_; rintro e w2 ⟨rfl, hk2⟩; rw [HJ.out])
      go_ret
      exact ⟨rfl, hK.then hk2⟩

end Go.Proofs.YtmnedhlgplkfhaaGreat

namespace Go.Proofs.YtmnedhlgplkfhaaGreat
open Go.RowKit
set_option linter.unusedVariables false

theorem seq_ok (A B : List Stp) (D : Dv) (h : D.goE A = 0) (h' : (D.go A).goE B = 0) : D.goE (A ++ B) = 0 ∧ D.go (A ++ B) = (D.go A).go B := by
  rw [goE_append, go_append, if_pos h, if_pos h]
  exact ⟨h', rfl⟩
theorem seq_bad (A B C : List Stp) (D : Dv) (h : D.goE A = 0) (h' : (D.go A).goE B ≠ 0) : D.goE (A ++ B ++ C) = 9 ∧ D.go (A ++ B ++ C) = (D.go A).go B := by
  have h9 : (D.go A).goE B = 9 := (goE_or B (D.go A)).resolve_left h'
  have e1 : D.goE (A ++ B) = 9 := by rw [goE_append, if_pos h, h9]
  have e2 : D.go (A ++ B) = (D.go A).go B := by rw [go_append, if_pos h]
  rw [goE_append (A ++ B), go_append (A ++ B), e1, if_neg (by decide), if_neg (by decide), e2]
  exact ⟨rfl, rfl⟩
set_option maxRecDepth 100000 in
set_option maxHeartbeats 800000 in
theorem write_place (g k : Nat) (x : ByteArray) (p : Dp) (D : Dv) (w : World) (hc0 : w.cell? ⟨g, 0, none⟩ = some (.pointer (some ⟨p.d, 0, none⟩))) (hgp : ¬ p.mem g) (hD : Dev w p D) (h0 : 0 ≤ D.c) (h1 : D.c ≤ 999000) (hx : x.size = 256) (hk : k ≤ 160) (hn : ∀ j, j < 4 → placeN k j < D.n) :
    Calls Tryz.prog 118 #[.pointer (some ⟨g, 0, none⟩), .func (.func 70) #[] #[], .int .i64 k, .string x] w fun e w' => e = .returned (.int .i64 (D.goE (pgW (placeN k) x))) ∧ Dev w' p (D.go (pgW (placeN k) x)) ∧ Kp p.mem w w' := by
  have hE : cutE x = 0 := by simp [cutE, hx]
  have hL : cutL x = cuts x 4 := by simp [cutL, hx]
  have hlt0 := hD.lt
  have hlen := pgW_len (placeN k) x
  obtain ⟨E, HE⟩ : ∃ E, Hid (D.goE (pgW (placeN k) x) = E) := ⟨_, rfl⟩
  obtain ⟨F, HF⟩ : ∃ F, Hid (D.go (pgW (placeN k) x) = F) := ⟨_, rfl⟩
  rw [HE.out, HF.out]
  go_enter Tryz.func118, Tryz.ntmps118
  go_upto_region 4 with (go_at_call 133; refine (cut_any x _ (by unfold maxLen; omega)).mono ?_; rintro e w1 ⟨v, rfl, hO, hk1⟩; rw [hE]; rw [hL] at hO; obtain ⟨a, c, rfl, hcl⟩ := hO.open; rw [cuts_len])
  go_wp2
  go_loopw [24] (fun t wr => ∃ j : Nat, j ≤ 4 ∧ t = .int .i64 j ∧ D.goE ((pgW (placeN k) x).take j) = 0 ∧ Dev wr p (D.go ((pgW (placeN k) x).take j)) ∧ Kp p.mem w1 wr) (fun t _ => 4 - (intOf t).toNat)
  case atStart => exact ⟨0, Nat.zero_le _, rfl, rfl, hD.keptN hk1, Kp.refl _ _⟩
  case round =>
    obtain ⟨j, hj, rfl, hz, hDr, hK⟩ := hrel
    by_cases hlt : j < 4
    · have hji : (j : Int) < 4 := by omega
      obtain ⟨b, rfl, hb, hc⟩ := hcl j (by rw [cuts_len]; exact hlt)
      have hbm : ¬ p.mem b := fun h => by have := hlt0 b h; omega
      have hcx : wr.cell? ⟨b, j, none⟩ = some (.string (mkA (secL x j))) := by
        rw [hK.cell hc hbm]
        congr 2
        simp [cuts, mkA, secL]
      have hcr : wr.drew.cell? ⟨g, 0, none⟩ = some (.pointer (some ⟨p.d, 0, none⟩)) := hK.cell (hk1.cell hc0 (fun h => h)) hgp
      have HW : Hid (wrap64 (126 + 4 * (k : Int) + (j : Int)) = (placeN k j : Int)) := by show _ = _; unfold wrap64 placeN; omega
      have hD2 := hDr.drew
      have hgn := go_n ((pgW (placeN k) x).take j) D
      have htl : ((pgW (placeN k) x).take j).length = j := by rw [List.length_take, hlen]; omega
      have hel : (pgW (placeN k) x)[j]'(by omega) = .wr (placeN k j) (secL x j) := by simp [pgW]
      have ht : (pgW (placeN k) x).take (j + 1) = (pgW (placeN k) x).take j ++ [.wr (placeN k j) (secL x j)] := by rw [List.take_succ_eq_append_getElem (by omega), hel]
      have hall : pgW (placeN k) x = (pgW (placeN k) x).take j ++ [.wr (placeN k j) (secL x j)] ++ (pgW (placeN k) x).drop (j + 1) := by rw [← ht, List.take_append_drop]
      have hwg := write_go (D.go ((pgW (placeN k) x).take j)) (placeN k j) (secL x j) (by rw [hgn.1]; exact hn j hlt) (secL_len hx hlt)
      have hms : (mkA (secL x j)).size ≤ maxLen := by
        show (secL x j).toArray.size ≤ maxLen
        rw [List.size_toArray, secL_len hx hlt]
        unfold maxLen
        omega
      have hD0 : 0 ≤ (D.go ((pgW (placeN k) x).take j)).c := by omega
      have hD1 : (D.go ((pgW (placeN k) x).take j)).c ≤ 1000000 := by omega
      have Hok := hide (seq_ok ((pgW (placeN k) x).take j) [.wr (placeN k j) (secL x j)] D hz)
      have Hbad := hide (seq_bad ((pgW (placeN k) x).take j) [.wr (placeN k j) (secL x j)] ((pgW (placeN k) x).drop (j + 1)) D hz)
      have HALL := hide hall
      have HT := hide ht
      rw [← HT.out] at Hok
      rw [← HALL.out, HE.out, HF.out] at Hbad
      have HWG := hide hwg
      clear hall ht hel htl hgn hwg
      obtain ⟨M, HM⟩ : ∃ M, Hid (mkA (secL x j) = M) := ⟨_, rfl⟩
      rw [show (⟨(secL x j).toArray⟩ : ByteArray) = mkA (secL x j) from rfl, HM.out] at HWG
      rw [HM.out] at hcx hms
      generalize D.go ((pgW (placeN k) x).take j) = Dj at *
      obtain ⟨q, HQ⟩ : ∃ q, Hid (placeN k j = q) := ⟨_, rfl⟩
      rw [HQ.out] at HW HWG Hok Hbad
      obtain ⟨st, HST⟩ : ∃ st, Hid (Stp.wr q (secL x j) = st) := ⟨_, rfl⟩
      rw [HST.out] at HWG Hok Hbad
      have hgp2 := hgp
      rcases goE_or [st] Dj with he | he
      · have hE0 : wrE Dj (q : Int) M = 0 := by rw [HWG.out.2]; exact he
        have HO2 := hide (Hok.out he)
        rw [HWG.out.1.symm] at HO2
        clear Hok Hbad hcl hc
        go_upto_region 7 with fail
        go_region_held_law (fun W => W.cell? ⟨g, 0, none⟩ = some (.pointer (some ⟨p.d, 0, none⟩))) (first | assumption) (first
          | (go_at_call 70; refine (place_any _ _ _).mono ?_; rintro e w' ⟨rfl, rfl⟩; rw [HW.out])
          | (go_at_call 99; refine (write_any p Dj _ _ _ hD2 hD0 hD1 hms).mono ?_; rintro e w2 ⟨rfl, hD3, hk3⟩; rw [hE0]; have T0 : w2.cell? ⟨g, 0, none⟩ = some (.pointer (some ⟨p.d, 0, none⟩)) := hk3.cell hcr hgp2)
          | fail)
        go_wp2
        go_roundw
        case rel => exact ⟨j + 1, by omega, by go_num, HO2.out.1, by rw [HO2.out.2]; exact hD3, (hK.then (Kp.drew _ _)).then hk3⟩
        case measure => simp [intOf]; omega
      · have hE0 : wrE Dj (q : Int) M = 9 := by rw [HWG.out.2]; exact he
        have HO2 := hide (Hbad.out (by rw [he]; decide))
        rw [HWG.out.1.symm] at HO2
        clear Hok Hbad hcl hc
        go_upto_region 7 with fail
        go_region_held_law (fun W => W.cell? ⟨g, 0, none⟩ = some (.pointer (some ⟨p.d, 0, none⟩))) (first | assumption) (first
          | (go_at_call 70; refine (place_any _ _ _).mono ?_; rintro e w' ⟨rfl, rfl⟩; rw [HW.out])
          | (go_at_call 99; refine (write_any p Dj _ _ _ hD2 hD0 hD1 hms).mono ?_; rintro e w2 ⟨rfl, hD3, hk3⟩; rw [hE0]; have T0 : w2.cell? ⟨g, 0, none⟩ = some (.pointer (some ⟨p.d, 0, none⟩)) := hk3.cell hcr hgp2)
          | fail)
        go_wp2
        go_ret
        exact ⟨by rw [HO2.out.1]; rfl, by rw [HO2.out.2]; exact hD3, (hk1.nThen (hK.then (Kp.drew _ _))).then hk3⟩
    · obtain rfl : j = 4 := by omega
      rw [List.take_of_length_le (by omega)] at hz hDr
      rw [HE.out] at hz
      rw [HF.out] at hDr
      go_wp2
      go_ret
      exact ⟨by rw [hz]; rfl, hDr, hk1.nThen hK⟩
set_option maxRecDepth 100000 in
set_option maxHeartbeats 800000 in
theorem write_image (g k : Nat) (x : ByteArray) (p : Dp) (D : Dv) (w : World) (hc0 : w.cell? ⟨g, 0, none⟩ = some (.pointer (some ⟨p.d, 0, none⟩))) (hgp : ¬ p.mem g) (hD : Dev w p D) (h0 : 0 ≤ D.c) (h1 : D.c ≤ 999000) (hx : x.size = 256) (hk : k ≤ 160) (hn : ∀ j, j < 4 → imageN k j < D.n) :
    Calls Tryz.prog 118 #[.pointer (some ⟨g, 0, none⟩), .func (.func 106) #[] #[], .int .i64 k, .string x] w fun e w' => e = .returned (.int .i64 (D.goE (pgW (imageN k) x))) ∧ Dev w' p (D.go (pgW (imageN k) x)) ∧ Kp p.mem w w' := by
  have hE : cutE x = 0 := by simp [cutE, hx]
  have hL : cutL x = cuts x 4 := by simp [cutL, hx]
  have hlt0 := hD.lt
  have hlen := pgW_len (imageN k) x
  obtain ⟨E, HE⟩ : ∃ E, Hid (D.goE (pgW (imageN k) x) = E) := ⟨_, rfl⟩
  obtain ⟨F, HF⟩ : ∃ F, Hid (D.go (pgW (imageN k) x) = F) := ⟨_, rfl⟩
  rw [HE.out, HF.out]
  go_enter Tryz.func118, Tryz.ntmps118
  go_upto_region 4 with (go_at_call 133; refine (cut_any x _ (by unfold maxLen; omega)).mono ?_; rintro e w1 ⟨v, rfl, hO, hk1⟩; rw [hE]; rw [hL] at hO; obtain ⟨a, c, rfl, hcl⟩ := hO.open; rw [cuts_len])
  go_wp2
  go_loopw [24] (fun t wr => ∃ j : Nat, j ≤ 4 ∧ t = .int .i64 j ∧ D.goE ((pgW (imageN k) x).take j) = 0 ∧ Dev wr p (D.go ((pgW (imageN k) x).take j)) ∧ Kp p.mem w1 wr) (fun t _ => 4 - (intOf t).toNat)
  case atStart => exact ⟨0, Nat.zero_le _, rfl, rfl, hD.keptN hk1, Kp.refl _ _⟩
  case round =>
    obtain ⟨j, hj, rfl, hz, hDr, hK⟩ := hrel
    by_cases hlt : j < 4
    · have hji : (j : Int) < 4 := by omega
      obtain ⟨b, rfl, hb, hc⟩ := hcl j (by rw [cuts_len]; exact hlt)
      have hbm : ¬ p.mem b := fun h => by have := hlt0 b h; omega
      have hcx : wr.cell? ⟨b, j, none⟩ = some (.string (mkA (secL x j))) := by
        rw [hK.cell hc hbm]
        congr 2
        simp [cuts, mkA, secL]
      have hcr : wr.drew.cell? ⟨g, 0, none⟩ = some (.pointer (some ⟨p.d, 0, none⟩)) := hK.cell (hk1.cell hc0 (fun h => h)) hgp
      have HW : Hid (wrap64 (2 + 4 * (k : Int) + (j : Int)) = (imageN k j : Int)) := by show _ = _; unfold wrap64 imageN; omega
      have hD2 := hDr.drew
      have hgn := go_n ((pgW (imageN k) x).take j) D
      have htl : ((pgW (imageN k) x).take j).length = j := by rw [List.length_take, hlen]; omega
      have hel : (pgW (imageN k) x)[j]'(by omega) = .wr (imageN k j) (secL x j) := by simp [pgW]
      have ht : (pgW (imageN k) x).take (j + 1) = (pgW (imageN k) x).take j ++ [.wr (imageN k j) (secL x j)] := by rw [List.take_succ_eq_append_getElem (by omega), hel]
      have hall : pgW (imageN k) x = (pgW (imageN k) x).take j ++ [.wr (imageN k j) (secL x j)] ++ (pgW (imageN k) x).drop (j + 1) := by rw [← ht, List.take_append_drop]
      have hwg := write_go (D.go ((pgW (imageN k) x).take j)) (imageN k j) (secL x j) (by rw [hgn.1]; exact hn j hlt) (secL_len hx hlt)
      have hms : (mkA (secL x j)).size ≤ maxLen := by
        show (secL x j).toArray.size ≤ maxLen
        rw [List.size_toArray, secL_len hx hlt]
        unfold maxLen
        omega
      have hD0 : 0 ≤ (D.go ((pgW (imageN k) x).take j)).c := by omega
      have hD1 : (D.go ((pgW (imageN k) x).take j)).c ≤ 1000000 := by omega
      have Hok := hide (seq_ok ((pgW (imageN k) x).take j) [.wr (imageN k j) (secL x j)] D hz)
      have Hbad := hide (seq_bad ((pgW (imageN k) x).take j) [.wr (imageN k j) (secL x j)] ((pgW (imageN k) x).drop (j + 1)) D hz)
      have HALL := hide hall
      have HT := hide ht
      rw [← HT.out] at Hok
      rw [← HALL.out, HE.out, HF.out] at Hbad
      have HWG := hide hwg
      clear hall ht hel htl hgn hwg
      obtain ⟨M, HM⟩ : ∃ M, Hid (mkA (secL x j) = M) := ⟨_, rfl⟩
      rw [show (⟨(secL x j).toArray⟩ : ByteArray) = mkA (secL x j) from rfl, HM.out] at HWG
      rw [HM.out] at hcx hms
      generalize D.go ((pgW (imageN k) x).take j) = Dj at *
      obtain ⟨q, HQ⟩ : ∃ q, Hid (imageN k j = q) := ⟨_, rfl⟩
      rw [HQ.out] at HW HWG Hok Hbad
      obtain ⟨st, HST⟩ : ∃ st, Hid (Stp.wr q (secL x j) = st) := ⟨_, rfl⟩
      rw [HST.out] at HWG Hok Hbad
      have hgp2 := hgp
      rcases goE_or [st] Dj with he | he
      · have hE0 : wrE Dj (q : Int) M = 0 := by rw [HWG.out.2]; exact he
        have HO2 := hide (Hok.out he)
        rw [HWG.out.1.symm] at HO2
        clear Hok Hbad hcl hc
        go_upto_region 7 with fail
        go_region_held_law (fun W => W.cell? ⟨g, 0, none⟩ = some (.pointer (some ⟨p.d, 0, none⟩))) (first | assumption) (first
          | (go_at_call 106; refine (image_any _ _ _).mono ?_; rintro e w' ⟨rfl, rfl⟩; rw [HW.out])
          | (go_at_call 99; refine (write_any p Dj _ _ _ hD2 hD0 hD1 hms).mono ?_; rintro e w2 ⟨rfl, hD3, hk3⟩; rw [hE0]; have T0 : w2.cell? ⟨g, 0, none⟩ = some (.pointer (some ⟨p.d, 0, none⟩)) := hk3.cell hcr hgp2)
          | fail)
        go_wp2
        go_roundw
        case rel => exact ⟨j + 1, by omega, by go_num, HO2.out.1, by rw [HO2.out.2]; exact hD3, (hK.then (Kp.drew _ _)).then hk3⟩
        case measure => simp [intOf]; omega
      · have hE0 : wrE Dj (q : Int) M = 9 := by rw [HWG.out.2]; exact he
        have HO2 := hide (Hbad.out (by rw [he]; decide))
        rw [HWG.out.1.symm] at HO2
        clear Hok Hbad hcl hc
        go_upto_region 7 with fail
        go_region_held_law (fun W => W.cell? ⟨g, 0, none⟩ = some (.pointer (some ⟨p.d, 0, none⟩))) (first | assumption) (first
          | (go_at_call 106; refine (image_any _ _ _).mono ?_; rintro e w' ⟨rfl, rfl⟩; rw [HW.out])
          | (go_at_call 99; refine (write_any p Dj _ _ _ hD2 hD0 hD1 hms).mono ?_; rintro e w2 ⟨rfl, hD3, hk3⟩; rw [hE0]; have T0 : w2.cell? ⟨g, 0, none⟩ = some (.pointer (some ⟨p.d, 0, none⟩)) := hk3.cell hcr hgp2)
          | fail)
        go_wp2
        go_ret
        exact ⟨by rw [HO2.out.1]; rfl, by rw [HO2.out.2]; exact hD3, (hk1.nThen (hK.then (Kp.drew _ _))).then hk3⟩
    · obtain rfl : j = 4 := by omega
      rw [List.take_of_length_le (by omega)] at hz hDr
      rw [HE.out] at hz
      rw [HF.out] at hDr
      go_wp2
      go_ret
      exact ⟨by rw [hz]; rfl, hDr, hk1.nThen hK⟩

end Go.Proofs.YtmnedhlgplkfhaaGreat

namespace Go.Proofs.YtmnedhlgplkfhaaGreat
open Go.RowKit
set_option linter.unusedVariables false

/-- A function value that does steps upon a device of which H holds. -/
structure Doer (H : Dv → Prop) (M : Int) (N : Nat) (p : Dp) (w : World) (f : Value) (L : List Stp) : Prop where
  fn : ∃ m fst cap, f = .func (.func m) fst cap ∧ (∀ args W, (callFunc m args).run Tryz.prog W = .ok (.enter m args) W) ∧ ∀ (W : World) (D : Dv), Kp p.mem w W → Dev W p D → D.n = N → H D → 0 ≤ D.c → D.c ≤ M →
    Calls Tryz.prog m (fst ++ cap) W fun e W' => e = .returned (.int .i64 (D.goE L)) ∧ Dev W' p (D.go L) ∧ Kp p.mem W W'
set_option maxRecDepth 100000 in
set_option maxHeartbeats 400000 in
theorem inTurn_any (M : Int) (N : Nat) (p : Dp) (D : Dv) (b n : Nat) (fs : List Value) (Ls : List (List Stp)) (w : World) (hD : Dev w p D) (hN : D.n = N) (h0 : 0 ≤ D.c) (h1 : D.c + (Ls.flatten).length ≤ M) (hbm : ¬ p.mem b)
    (hl : fs.length = Ls.length) (hl6 : fs.length ≤ 6) (hc : ∀ k (h : k < fs.length), w.cell? ⟨b, k, none⟩ = some fs[k]) (hf : ∀ k (h : k < fs.length) (h' : k < Ls.length), Doer (fun D' => k = 0 → D' = D) M N p w fs[k] Ls[k]) :
    Calls Tryz.prog 93 #[.slice (some ⟨b, 0, none⟩) fs.length n] w fun e w' => e = .returned (.int .i64 (D.goE Ls.flatten)) ∧ Dev w' p (D.go Ls.flatten) ∧ Kp p.mem w w' := by
  obtain ⟨E, HE⟩ : ∃ E, Hid (D.goE Ls.flatten = E) := ⟨_, rfl⟩
  obtain ⟨F, HF⟩ : ∃ F, Hid (D.go Ls.flatten = F) := ⟨_, rfl⟩
  rw [HE.out, HF.out]
  have HC := hide hc
  have HFN := hide hf
  have HL := hide hl
  clear hc hf hl
  go_enter Tryz.func93, Tryz.ntmps93
  go_wp2
  go_loopw [8] (fun t wr => ∃ j : Nat, j ≤ fs.length ∧ t = .int .i64 j ∧ D.goE ((Ls.take j).flatten) = 0 ∧ Dev wr p (D.go ((Ls.take j).flatten)) ∧ Kp p.mem w wr) (fun t _ => fs.length - (intOf t).toNat)
  case atStart => exact ⟨0, Nat.zero_le _, rfl, rfl, hD, Kp.refl _ _⟩
  case round =>
    obtain ⟨j, hj, rfl, hz, hDr, hK⟩ := hrel
    by_cases hlt : j < fs.length
    · have hji : (j : Int) < (fs.length : Int) := by omega
      have hlj : j < Ls.length := by rw [← HL.out]; exact hlt
      obtain ⟨m, fst, cap, hfj, hent, hcall⟩ := (HFN.out j hlt hlj).fn
      have hcj := hK.cell (HC.out j hlt) hbm
      rw [hfj] at hcj
      have ht : (Ls.take (j + 1)).flatten = (Ls.take j).flatten ++ Ls[j] := by rw [List.take_succ_eq_append_getElem hlj, List.flatten_append]; simp
      have hall : Ls.flatten = (Ls.take j).flatten ++ Ls[j] ++ (Ls.drop (j + 1)).flatten := by rw [← ht, ← List.flatten_append, List.take_append_drop]
      have hlen : (Ls.flatten).length = ((Ls.take j).flatten).length + Ls[j].length + ((Ls.drop (j + 1)).flatten).length := by
        have := congrArg List.length hall
        simpa only [List.length_append] using this
      have hgn := go_n ((Ls.take j).flatten) D
      have hDn : (D.go ((Ls.take j).flatten)).n = N := by rw [hgn.1]; exact hN
      have hH : j = 0 → D.go ((Ls.take j).flatten) = D := fun e => by subst e; rfl
      have hD0 : 0 ≤ (D.go ((Ls.take j).flatten)).c := by omega
      have hD1 : (D.go ((Ls.take j).flatten)).c ≤ M := by omega
      have Hok := hide (seq_ok ((Ls.take j).flatten) Ls[j] D hz)
      have Hbad := hide (seq_bad ((Ls.take j).flatten) Ls[j] ((Ls.drop (j + 1)).flatten) D hz)
      have HALL := hide hall
      have HT := hide ht
      rw [← HT.out] at Hok
      rw [← HALL.out, HE.out, HF.out] at Hbad
      clear hall ht hlen hgn hfj
      have hc1 := hcall wr _ hK hDr hDn hH hD0 hD1
      clear hcall hH
      generalize D.go ((Ls.take j).flatten) = Dj at *
      obtain ⟨L, HLj⟩ : ∃ L, Hid (Ls[j] = L) := ⟨_, hide rfl⟩
      rw [HLj.out] at Hok Hbad hc1
      have hc2 := hc1
      clear hc1
      rcases goE_or L Dj with he | he
      · have HO2 := hide (Hok.out he)
        rw [he] at hc2
        clear Hok Hbad
        go_wp2_with (refine hc2.mono ?_; rintro e w2 ⟨rfl, hD3, hk3⟩)
        go_roundw
        case rel => exact ⟨j + 1, by omega, by go_num, HO2.out.1, by rw [HO2.out.2]; exact hD3, hK.then hk3⟩
        case measure => simp [intOf]; omega
      · have HO2 := hide (Hbad.out (by rw [he]; decide))
        rw [he] at hc2
        clear Hok Hbad
        go_wp2_with (refine hc2.mono ?_; rintro e w2 ⟨rfl, hD3, hk3⟩)
        go_ret
        exact ⟨by rw [HO2.out.1]; rfl, by rw [HO2.out.2]; exact hD3, hK.then hk3⟩
    · obtain rfl : j = fs.length := by omega
      rw [List.take_of_length_le (by have := HL.out; omega)] at hz hDr
      rw [HE.out] at hz
      rw [HF.out] at hDr
      go_wp2
      go_ret
      exact ⟨by rw [hz]; rfl, hDr, hK⟩

end Go.Proofs.YtmnedhlgplkfhaaGreat
