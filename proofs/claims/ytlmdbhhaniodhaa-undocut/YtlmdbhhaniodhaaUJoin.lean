/- Contracts, over the turned program: the document's Join of sectors. Conditions: those that each theorem states. -/
import Derived.Test.YtlmdbhhaniodhaaUCut
namespace Go.Proofs.Ytlmdbhhaniodhaa
open Go.RowKit
set_option linter.unusedVariables false

/-- Are they a page's sectors; their bytes; what Join answers. -/
def okJ (l : List ByteArray) : Bool := decide (l.length = 4 ∧ ∀ s ∈ l, s.size = 64)
def catB (l : List ByteArray) : List UInt8 := l.flatMap fun s => s.data.toList
def joinS (l : List ByteArray) : ByteArray := ⟨(if okJ l then catB l else []).toArray⟩
def joinE (l : List ByteArray) : Int := if okJ l then 0 else 1
theorem catB_len : ∀ (l : List ByteArray), (∀ s ∈ l, s.size = 64) → (catB l).length = 64 * l.length
  | [], _ => rfl
  | s :: l, h => by
    have h1 := catB_len l (fun x hx => h x (by simp [hx]))
    have h2 := h s (by simp)
    have e : (catB (s :: l)).length = s.data.toList.length + (catB l).length := by simp [catB]
    have e2 : s.data.toList.length = s.size := by rw [Array.length_toList]; rfl
    rw [e, h1, e2, h2, List.length_cons]
    omega
theorem catB_take (l : List ByteArray) (k : Nat) (h : k < l.length) : catB (l.take (k + 1)) = catB (l.take k) ++ l[k].data.toList := by
  unfold catB
  rw [List.take_succ_eq_append_getElem h, List.flatMap_append, List.flatMap_cons, List.flatMap_nil, List.append_nil]
theorem cat_str (a : List UInt8) (s : ByteArray) : (⟨a.toArray⟩ : ByteArray) ++ s = ⟨(a ++ s.data.toList).toArray⟩ := by
  apply ByteArray.ext
  rw [ByteArray.data_append]
  apply Array.ext'
  simp
theorem okJ_bad {l : List ByteArray} {k : Nat} (hk : k < l.length) (h : l[k].size ≠ 64) : okJ l = false := by
  unfold okJ
  rw [decide_eq_false_iff_not]
  rintro ⟨_, h2⟩
  exact h (h2 _ (List.getElem_mem hk))

set_option maxRecDepth 100000 in
set_option maxHeartbeats 800000 in
theorem rjoin_any (v : Value) (l : List ByteArray) (B : Nat) (w : World) (hS : Sl Value.string B w v l) :
    Calls Try.prog 17 #[v] w fun e w' => e = .returned (.tuple #[.string (joinS l), .int .i64 (joinE l)]) ∧ Kp none' w w' := by
  obtain ⟨a, c, rfl, hlc, hcm, ha⟩ := hS
  unfold maxLen at hcm
  by_cases hl : l.length = 4
  · obtain ⟨S, HS⟩ : ∃ S, Hid (joinS l = S) := ⟨_, rfl⟩
    obtain ⟨E, HE⟩ : ∃ E, Hid (joinE l = E) := ⟨_, rfl⟩
    rw [HS.out, HE.out]
    have hne : ((l.length : Int) != 4) = false := by simp [hl]
    have HL : Hid (l.length = 4) := hl
    have hli : (l.length : Int) ≤ 4 := by omega
    clear hl
    go_enter Try.func17, Try.ntmps17
    go_wp2
    go_loopw [4, 5] (fun b t wr => ∃ (k : Nat) (A : ByteArray), k ≤ l.length ∧ t = .int .i64 k ∧ b = .string A ∧ Hid (A = ⟨(catB (l.take k)).toArray⟩ ∧ ∀ s ∈ l.take k, s.size = 64) ∧ Kp none' w wr) (fun _ t _ => l.length - (intOf t).toNat)
    case atStart => exact ⟨0, _, Nat.zero_le _, rfl, rfl, ⟨rfl, by simp⟩, Kp.refl _ _⟩
    case round =>
      obtain ⟨k, A, hk, rfl, rfl, HA, hKr⟩ := hrel
      by_cases hlt : k < l.length
      · obtain ⟨b, off, rfl, _, hc⟩ := ha k hlt
        have hcc := hKr.cell hc (fun h => h)
        have hk' : (k : Int) < (l.length : Int) := by omega
        have HB := hide (okJ_bad (l := l) hlt)
        have HT := hide (catB_take l k hlt)
        have HM : Hid (l[k].size = 64 → ∀ s ∈ l.take (k + 1), s.size = 64) := by
          intro h s hs
          rw [List.take_succ_eq_append_getElem hlt] at hs
          rcases List.mem_append.1 hs with hs | hs
          · exact HA.out.2 s hs
          · simp at hs; subst hs; exact h
        have HZ : Hid (A.size ≤ 256) := by
          show A.size ≤ _
          rw [HA.out.1]
          show (catB (l.take k)).toArray.size ≤ _
          rw [List.size_toArray, catB_len _ HA.out.2, List.length_take]
          have := HL.out
          omega
        clear ha hc
        generalize l[k] = x at *
        by_cases hx : x.size = 64
        · have hx' : ((x.size : Int) != 64) = false := by simp [hx]
          have hxs : ¬ 9223372036854775807 < A.size + x.size := by have := HZ.out; omega
          have HR : Hid (A ++ x = ⟨(catB (l.take (k + 1))).toArray⟩ ∧ ∀ s ∈ l.take (k + 1), s.size = 64) := by
            refine ⟨?_, HM.out hx⟩
            rw [HT.out, HA.out.1, cat_str]
          clear hx
          go_wp2
          go_roundw
          case rel => exact ⟨k + 1, _, by omega, by go_num, rfl, HR, hKr⟩
          case measure => simp [intOf]; omega
        · have hx' : ((x.size : Int) != 64) = true := by simp; omega
          have hb := hide (HB.out hx)
          clear hx
          go_wp2
          go_ret2
          rw [← HS.out, ← HE.out]
          refine ⟨?_, hKr⟩
          unfold joinS joinE
          rw [hb.out]
          rfl
      · have hb : Hid (okJ l = true ∧ A = ⟨(catB l).toArray⟩) := by
          have h := HA.out
          rw [List.take_of_length_le (by omega)] at h
          refine ⟨?_, h.1⟩
          unfold okJ
          simp only [decide_eq_true_eq]
          exact ⟨HL.out, h.2⟩
        go_wp2
        go_ret2
        rw [← HS.out, ← HE.out]
        refine ⟨?_, hKr⟩
        unfold joinS joinE
        rw [hb.out.1, hb.out.2]
        rfl
  · have hb : okJ l = false := by unfold okJ; simp [hl]
    have hE : joinE l = 1 := by simp [joinE, hb]
    have hB : joinS l = ⟨#[]⟩ := by unfold joinS; rw [hb]; rfl
    rw [hE, hB]
    have hne : ((l.length : Int) != 4) = true := by simp; omega
    clear ha hE hB hl hb
    go_enter Try.func17, Try.ntmps17
    go_wp2
    go_ret2
    exact ⟨rfl, Kp.refl _ _⟩

end Go.Proofs.Ytlmdbhhaniodhaa
