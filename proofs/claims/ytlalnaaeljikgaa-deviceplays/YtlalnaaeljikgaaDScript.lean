/- Contracts, over the turned program: the beginning of a script, and a device behind a script. Conditions: those that each theorem states. -/
import Derived.Test.YtlalnaaeljikgaaDOpen
namespace Go.Proofs.Ytlalnaaeljikgaa
open Go.RowKit
set_option linter.unusedVariables false

theorem Ops.take {B : Nat} {w : World} {a : Option Addr} {n c : Nat} {l : List OpD} (h : Ops B w (.slice a n c) l) (k : Nat) (hk : k ≤ l.length) : Ops B w (.slice a k c) (l.take k) := by
  obtain ⟨a', c', e, h1, h2, h3⟩ := h
  cases e
  have hl : (l.take k).length = k := by rw [List.length_take]; omega
  refine ⟨a, c, by rw [hl], by omega, h2, fun i hi => ?_⟩
  obtain ⟨b, off, r1, r2, r3, r4⟩ := h3 i (by omega)
  have e : (l.take k)[i] = l[i]'(by omega) := by simp
  exact ⟨b, off, r1, r2, by rw [e]; exact r3, by rw [e]; exact r4⟩
theorem Ops.shape {B : Nat} {w : World} {v : Value} {l : List OpD} (h : Ops B w v l) : ∃ a c, v = .slice a l.length c ∧ l.length ≤ c ∧ c ≤ maxLen := by
  obtain ⟨a, c, e, h1, h2, _⟩ := h
  exact ⟨a, c, e, h1, h2⟩
/-- The cells of the step number k. -/
theorem Ops.at {B : Nat} {w : World} {a : Option Addr} {n c : Nat} {l : List OpD} (h : Ops B w (.slice a n c) l) (k : Nat) (hk : k < l.length) : ∃ b off, a = some ⟨b, off, none⟩ ∧ b < B ∧ l[k].ok B w ∧
    w.cell? ⟨b, off + k * 5, none⟩ = some (.int .i64 l[k].k) ∧ w.cell? ⟨b, off + k * 5 + 1, none⟩ = some (.int .i64 l[k].i) ∧ w.cell? ⟨b, off + k * 5 + 2, none⟩ = some (.string l[k].s) ∧ w.cell? ⟨b, off + k * 5 + 3, none⟩ = some l[k].kv ∧ w.cell? ⟨b, off + k * 5 + 4, none⟩ = some (.int .i64 l[k].c) := by
  obtain ⟨a', c', e, h1, h2, h3⟩ := h
  cases e
  obtain ⟨b, off, r1, r2, r3, r4⟩ := h3 k hk
  exact ⟨b, off, r1, r2, r4, r3 0 _ rfl, r3 1 _ rfl, r3 2 _ rfl, r3 3 _ rfl, r3 4 _ rfl⟩

set_option maxRecDepth 100000 in
set_option maxHeartbeats 400000 in
theorem early_any (B : Nat) (v : Value) (l : List OpD) (w : World) (h : Ops B w v l) :
    Calls Try.prog 10 #[v] w fun e w' => ∃ v', e = .returned v' ∧ w' = w ∧ Ops B w v' (l.take 300) := by
  obtain ⟨a, c, rfl, h1, h2⟩ := h.shape
  unfold maxLen at h2
  have hT := h.take (min l.length 300) (by omega)
  have HT : Hid (Ops B w (.slice a (min (l.length : Int) 300).toNat c) (l.take 300)) := by
    have e1 : (min (l.length : Int) 300).toNat = min l.length 300 := by omega
    have e2 : l.take (min l.length 300) = l.take 300 := by
      rcases Nat.le_total l.length 300 with h | h
      · rw [Nat.min_eq_left h, List.take_length, List.take_of_length_le h]
      · rw [Nat.min_eq_right h]
    rw [e2] at hT
    show Ops B w _ _
    rw [e1]
    exact hT
  clear hT h
  go_enter Try.func10, Try.ntmps10
  go_wp2
  go_ret
  exact ⟨_, rfl, rfl, HT.out⟩

/-- A device behind a script. -/
def Dv.plays (D : Dv) (l : List OpD) : Dv := l.foldl Dv.step D
theorem plays_snoc (D : Dv) (l : List OpD) (o : OpD) : D.plays (l ++ [o]) = (D.plays l).step o := by simp [Dv.plays]
theorem plays_take (D : Dv) (l : List OpD) (k : Nat) (h : k < l.length) : D.plays (l.take (k + 1)) = (D.plays (l.take k)).step l[k] := by rw [List.take_succ_eq_append_getElem h, plays_snoc]
theorem write_c (D : Dv) (i : Int) (s : ByteArray) : (D.write i s).c = D.c + 1 := by unfold Dv.write; split <;> rfl
theorem sync_c (D : Dv) : D.sync.c = D.c + 1 := by unfold Dv.sync; split <;> rfl
theorem stop_c (D : Dv) (n : Int) : (D.stop n).c = D.c := by unfold Dv.stop; split <;> rfl
theorem crash_c (D : Dv) (l : List Bool) (t c : Int) : (D.crash l t c).c = D.c := rfl
theorem step_c (D : Dv) (o : OpD) : D.c ≤ (D.step o).c ∧ (D.step o).c ≤ D.c + 1 := by
  unfold Dv.step
  split
  · rw [write_c]; omega
  · split
    · rw [sync_c]; omega
    · split
      · rw [stop_c]; omega
      · rw [crash_c]; omega
theorem plays_c (l : List OpD) : ∀ D : Dv, D.c ≤ (D.plays l).c ∧ (D.plays l).c ≤ D.c + l.length := by
  induction l with
  | nil => intro D; simp [Dv.plays]
  | cons o l ih =>
    intro D
    have h1 := ih (D.step o)
    have h2 := step_c D o
    have e : D.plays (o :: l) = (D.step o).plays l := rfl
    rw [e, List.length_cons]
    omega
theorem write_n (D : Dv) (i : Int) (s : ByteArray) : (D.write i s).n = D.n := by unfold Dv.write; split <;> rfl
theorem sync_n (D : Dv) : D.sync.n = D.n := by unfold Dv.sync; split <;> rfl
theorem stop_n (D : Dv) (n : Int) : (D.stop n).n = D.n := by unfold Dv.stop; split <;> rfl
theorem step_n (D : Dv) (o : OpD) : (D.step o).n = D.n := by
  unfold Dv.step
  split
  · rw [write_n]
  · split
    · rw [sync_n]
    · split
      · rw [stop_n]
      · rfl
theorem plays_n (l : List OpD) : ∀ D : Dv, (D.plays l).n = D.n := by
  induction l with
  | nil => intro D; rfl
  | cons o l ih =>
    intro D
    have e : D.plays (o :: l) = (D.step o).plays l := rfl
    rw [e, ih, step_n]

set_option maxRecDepth 100000 in
set_option maxHeartbeats 400000 in
theorem played_any (n : Int) (B : Nat) (v : Value) (l : List OpD) (w : World) (h : Ops B w v l) (hl : l.length ≤ 300) (hB : B ≤ w.heap.size) :
    Calls Try.prog 23 #[.int .i64 n, v] w fun e w' => ∃ p : Dp, e = .returned (.pointer (some ⟨p.d, 0, none⟩)) ∧ Dev w' p ((fresh (newN n)).plays l) ∧ Kp none' w w' ∧ ∀ k, p.mem k → w.heap.size ≤ k := by
  obtain ⟨a, c, rfl, h1, h2⟩ := h.shape
  unfold maxLen at h2
  go_enter Try.func23, Try.ntmps23
  go_wp2_with (go_at_call 11; refine (new_any _ _).mono ?_; rintro e w1 ⟨p, rfl, hD1, hk1, hp1⟩)
  have hO1 := h.kept hk1 (fun _ _ h => h)
  clear h
  go_loopw [6] (fun t wr => ∃ k : Nat, k ≤ l.length ∧ t = .int .i64 k ∧ Dev wr p ((fresh (newN n)).plays (l.take k)) ∧ Kp p.mem w1 wr) (fun t _ => l.length - (intOf t).toNat)
  case atStart => exact ⟨0, Nat.zero_le _, rfl, hD1, Kp.refl _ _⟩
  case round =>
    obtain ⟨k, hk, rfl, hDr, hKr⟩ := hrel
    clear hD1
    by_cases hlt : k < l.length
    · have hOr := hO1.kept hKr (fun j hj h => by have := hp1 j h; omega)
      obtain ⟨b, off, rfl, hb, hok, c0, c1, c2, c3, c4⟩ := hOr.at k hlt
      have hcc := plays_c (l.take k) (fresh (newN n))
      rw [show (fresh (newN n)).c = 0 from rfl, List.length_take] at hcc
      have hki : (k : Int) < (l.length : Int) := by omega
      have HB : Hid (∀ j, p.mem j → B ≤ j) := fun j h => by have := hp1 j h; omega
      have HS : Hid ((fresh (newN n)).plays (l.take (k + 1)) = ((fresh (newN n)).plays (l.take k)).step l[k]) := plays_take _ l k hlt
      have HC : Hid (0 ≤ ((fresh (newN n)).plays (l.take k)).c ∧ ((fresh (newN n)).plays (l.take k)).c ≤ 1000000) := ⟨by omega, by omega⟩
      obtain ⟨D, Hd⟩ : ∃ D, Hid ((fresh (newN n)).plays (l.take k) = D) := ⟨_, rfl⟩
      rw [Hd.out] at hDr HS HC
      obtain ⟨o, Ho⟩ : ∃ o, Hid (l[k]'hlt = o) := ⟨_, rfl⟩
      rw [Ho.out] at hok c0 c1 c2 c3 c4 HS
      clear hcc hO1 hOr
      go_wp2_with (go_at_call 13; refine (does_any p D o B _ hDr HC.out.1 HC.out.2 hok HB.out).mono ?_; rintro e w2 ⟨rfl, hD2, hk2⟩)
      go_roundw
      case rel => exact ⟨k + 1, by omega, by go_num, by rw [HS.out]; exact hD2, hKr.then hk2⟩
      case measure => simp [intOf]; omega
    · obtain rfl : k = l.length := by omega
      rw [List.take_length] at hDr
      clear hO1
      go_wp2
      go_ret
      exact ⟨p, rfl, hDr, hk1.trans hKr (fun _ _ h => h) (fun j hj h => absurd hj (by have := hp1 j h; omega)), hp1⟩

theorem Ow.snoc {α : Type} {f : α → Value} {e : TypeId} {w : World} {base : Nat} {v : Value} {l : List α} {x : α} (h : w.ownsRow base e 1 v (l.length + 1) (l.map f ++ [f x])) : Ow f e w base v (l ++ [x]) := by
  unfold Ow
  rw [List.map_append, List.length_append]
  exact h
/-- A string's value. -/
def strV (l : List UInt8) : Value := .string ⟨l.toArray⟩
theorem infoS : (Try.prog.info? 9).map (fun i => (i.zero, i.size, i.bytes)) = some (some (.string ByteArray.empty), 1, 16) := by kernel_rfl
/-- What the first k sectors read. -/
def reads (D : Dv) (k : Nat) : List (List UInt8) := (List.range k).map fun i : Nat => rdL D (i : Int)
theorem reads_succ (D : Dv) (k : Nat) : reads D (k + 1) = reads D k ++ [rdL D (k : Int)] := by simp [reads, List.range_succ]
theorem reads_len (D : Dv) (k : Nat) : (reads D k).length = k := by simp [reads]
theorem reads_at (D : Dv) (k i : Nat) (h : i < k) : (reads D k)[i]'(by rw [reads_len]; exact h) = rdL D (i : Int) := by simp [reads]

end Go.Proofs.Ytlalnaaeljikgaa
