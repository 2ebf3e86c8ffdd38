/- Which row a key and a rest are, in plain words (no program): what is written is read again; what is read is just what is written; how long they are. No conditions but those that each theorem states. -/
import Derived.Test.YtiledkdoabdnnabRRead
namespace Go.Proofs.Ytiledkdoabdnnab
open Go Go.RowKit
set_option linter.unusedVariables false

theorem wrap_uN (n : Int) (h0 : -9223372036854775808 ≤ n) (h1 : n < 9223372036854775808) : wrap64 (uN n : Int) = n := by
  unfold wrap64 uN
  omega
theorem strB_small (l : List UInt8) (h : l.length ≤ 255) : strB l = UInt8.ofNat l.length :: l := by
  unfold strB
  rw [Nat.min_eq_left h, List.take_of_length_le h]
theorem str_app10 (l r : List UInt8) (h : l.length ≤ 10) : strR (mkB (strB l ++ r)) 0 10 = mkB l ∧ strS (mkB (strB l ++ r)) 0 10 = mkB r ∧ strE (mkB (strB l ++ r)) 0 10 = 0 := by
  rw [strB_small l (by omega)]
  have hz := mkB_size (UInt8.ofNat l.length :: l ++ r)
  rw [List.length_append, List.length_cons] at hz
  have hN : strN (mkB (UInt8.ofNat l.length :: l ++ r)) = l.length := by
    unfold strN
    rw [mkB_list]
    simp
    omega
  have h0 : strOk (mkB (UInt8.ofNat l.length :: l ++ r)) 0 10 = true := by unfold strOk; rw [hN, hz, decide_eq_true_iff]; omega
  refine ⟨?_, ?_, ?_⟩
  · simp only [strR, h0, if_true]
    rw [hN, mkB_ext]
    congr 1
    simp only [List.cons_append, List.drop_succ_cons, List.drop_zero]
    rw [show 1 + l.length - 1 = l.length by omega]
    exact List.take_left
  · simp only [strS, h0, if_true]
    rw [hN, mkB_ext, hz]
    congr 1
    rw [show 1 + l.length = (UInt8.ofNat l.length :: l).length by simp; omega, List.drop_left]
    exact List.take_of_length_le (by simp)
  · unfold strE
    rw [hN]
    rw [if_neg (by omega), if_neg (by omega), if_neg (by omega), if_neg (by omega)]
theorem st_back (k : Int) (x : V) (r : List UInt8) (hx : x.wf) (hf : fitV k x = true) : stV k (mkB (encF x ++ r)) 0 = x ∧ stS k (mkB (encF x ++ r)) 0 = mkB r ∧ stE k (mkB (encF x ++ r)) 0 = 0 := by
  obtain ⟨hk, hs, ho⟩ := fitV_parts hf
  obtain ⟨xk, xn, xs⟩ := x
  dsimp only at hk hs
  subst hk
  have e : xs.data.toList.length = xs.size := by rw [Array.length_toList]; rfl
  rcases (okV_iff _).1 ho with ⟨h1, h2⟩ | ⟨h1, h2⟩
  · dsimp only at h1 h2
    subst h1
    have hxs : xs = ⟨#[]⟩ := by
      rw [← mkB_self xs, h2]
      rfl
    subst hxs
    have hE : encF ⟨1, xn, ⟨#[]⟩⟩ = be (uN xn) (wid 8) := by unfold encF; rw [if_pos rfl, wid8]
    have h := raw_app (be (uN xn) (wid 8)) r
    rw [be_len] at h
    rw [hE]
    unfold stV stS stE
    rw [if_pos rfl, if_pos rfl, if_pos rfl, h.1, h.2.1, h.2.2, mkB_list, val_be, wid8, Nat.mod_eq_of_lt (by have := uN_lt xn; omega), wrap_uN xn hx.n0 hx.n1]
    exact ⟨rfl, rfl, rfl⟩
  · dsimp only at h1 h2
    subst h1 h2
    have hE : encF ⟨2, 0, xs⟩ = strB xs.data.toList := by unfold encF; rw [if_neg (by show ¬ (2 : Int) = 1; decide)]
    have h := str_app10 xs.data.toList r (by omega)
    rw [hE]
    unfold stV stS stE
    rw [if_neg (by decide), if_neg (by decide), if_neg (by decide), h.1, h.2.1, h.2.2, mkB_self]
    exact ⟨rfl, rfl, rfl⟩
theorem rest_back (ks : List Int) : ∀ l : List V, ks.length = l.length → (∀ y ∈ l, y.wf) → (ks.zip l).all fitP = true → restL ks (mkB (encR l)) 0 = l ∧ restD ks (mkB (encR l)) 0 = 0 := by
  induction ks with
  | nil =>
    intro l hl _ _
    have : l = [] := List.eq_nil_of_length_eq_zero (by simpa using hl.symm)
    subst this
    exact ⟨rfl, by decide⟩
  | cons k ks ih =>
    intro l hl hw hf
    cases l with
    | nil => simp at hl
    | cons x l =>
      rw [List.zip_cons_cons, List.all_cons, Bool.and_eq_true] at hf
      have e : encR (x :: l) = encF x ++ encR l := by simp [encR]
      have h := st_back k x (encR l) (hw x (by simp)) hf.1
      have h2 := ih l (by simpa using hl) (fun y hy => hw y (by simp [hy])) hf.2
      rw [e]
      unfold restL restD
      rw [h.1, h.2.1, h.2.2, h2.1, h2.2]
      exact ⟨rfl, rfl⟩
/-- What is written is read again. -/
theorem rdRow_back (ks : List Int) (u x : Int) (l : List V) (hw : ∀ y ∈ l, y.wf) (hE : fitE ks u x l = 0) : rdRow ks u x (rowK ks u x l) (mkB (rowR ks u x l)) = .ok l := by
  obtain ⟨h1, h2, h3⟩ := fitE_ok hE
  obtain ⟨y, r, rfl, hys, hyo, _, _⟩ := fitE_first hE
  unfold rowK rowR
  rw [if_pos hE, if_pos hE]
  have hp : pRead (encL ((y :: r).take 1)) = .ok [y] := pRead_enc [y] (fun z hz => by simp at hz; subst hz; exact hw z (by simp)) (by simp [hyo])
  cases ks with
  | nil => simp at h2
  | cons k ks =>
    rw [List.zip_cons_cons, List.all_cons, Bool.and_eq_true] at h3
    have hb := rest_back ks r (by simpa using h2.symm) (fun z hz => hw z (by simp [hz])) h3.2
    have e : rdRow (k :: ks) u x (encL ((y :: r).take 1)) (mkB (encR ((y :: r).drop 1))) = .ok ([y] ++ restL ((k :: ks).drop 1) (mkB (encR ((y :: r).drop 1))) 0) := rdRow_ok h1 hp ⟨rfl, hb.2, by
      show fitE (k :: ks) u x ([y] ++ restL ks (mkB (encR r)) 0) = 0
      rw [hb.1]
      exact hE⟩
    rw [e]
    show Except.ok ([y] ++ restL ks (mkB (encR r)) 0) = _
    rw [hb.1]
    rfl
/-- How long they are. -/
theorem encF_fit (k : Int) (x : V) (hf : fitV k x = true) : (encF x).length ≤ 11 := by
  obtain ⟨hk, hs, ho⟩ := fitV_parts hf
  have e : x.s.data.toList.length = x.s.size := by rw [Array.length_toList]; rfl
  unfold encF
  split
  · rw [be_len]; omega
  · rw [strB_small _ (by omega), List.length_cons]; omega
theorem encR_fit (ks : List Int) : ∀ l : List V, ks.length = l.length → (ks.zip l).all fitP = true → (encR l).length ≤ 11 * l.length := by
  induction ks with
  | nil =>
    intro l hl _
    have : l = [] := List.eq_nil_of_length_eq_zero (by simpa using hl.symm)
    subst this
    simp [encR]
  | cons k ks ih =>
    intro l hl hf
    cases l with
    | nil => simp at hl
    | cons x l =>
      rw [List.zip_cons_cons, List.all_cons, Bool.and_eq_true] at hf
      have e : encR (x :: l) = encF x ++ encR l := by simp [encR]
      have h := encF_fit k x hf.1
      have h2 := ih l (by simpa using hl) hf.2
      rw [e, List.length_append, List.length_cons]
      omega
theorem rowK_len (ks : List Int) (u x : Int) (l : List V) : (rowK ks u x l).length ≤ 23 := by
  unfold rowK
  split
  · next hE =>
    obtain ⟨y, r, rfl, hys, _⟩ := fitE_first hE
    exact encV_small y hys
  · simp
theorem rowR_len (ks : List Int) (u x : Int) (l : List V) : (rowR ks u x l).length ≤ 33 := by
  unfold rowR
  split
  · next hE =>
    obtain ⟨h1, h2, h3⟩ := fitE_ok hE
    obtain ⟨y, r, rfl, _, _, h4, _⟩ := fitE_first hE
    cases ks with
    | nil => simp at h2
    | cons k ks =>
      rw [List.zip_cons_cons, List.all_cons, Bool.and_eq_true] at h3
      have h := encR_fit ks r (by simpa using h2.symm) h3.2
      rw [List.length_cons] at h4
      show (encR r).length ≤ 33
      omega
  · simp

/-- What is read is just what is written. -/
theorem uN_wrap64 (m : Nat) (h : m < 18446744073709551616) : uN (wrap64 (m : Int)) = m := by
  unfold uN wrap64
  omega
theorem drop_all (s : ByteArray) (n : Nat) : (s.extract n s.size).data.toList = s.data.toList.drop n := by
  rw [ext_list]
  exact List.take_of_length_le (by rw [List.length_drop, Array.length_toList]; exact Nat.le_refl _)
theorem st_only (k : Int) (s : ByteArray) (e : Int) (h : stE k s e = 0) : e = 0 ∧ encF (stV k s e) ++ (stS k s e).data.toList = s.data.toList := by
  have hsz : s.data.toList.length = s.size := by rw [Array.length_toList]; rfl
  by_cases hk : k = 1
  · unfold stE at h
    rw [if_pos hk] at h
    unfold rawE at h
    rw [wid8] at h
    by_cases he : e = 0
    · rw [if_neg (by omega)] at h
      by_cases h8 : (s.size : Int) < ((8 : Nat) : Int)
      · rw [if_pos h8] at h; omega
      · have hn : ¬ (e ≠ 0 ∨ ((8 : Nat) : Int) < 0 ∨ (s.size : Int) < ((8 : Nat) : Int)) := by omega
        have eR : (rawR s e (wid 8)).data.toList = s.data.toList.take 8 := by
          unfold rawR
          rw [wid8, if_neg hn, ext_list]
          rfl
        have eS : (stS k s e).data.toList = s.data.toList.drop 8 := by
          unfold stS rawS
          rw [if_pos hk, wid8, if_neg hn]
          exact drop_all s 8
        have l8 : (s.data.toList.take 8).length = 8 := by rw [List.length_take]; omega
        have hv := val_lt (s.data.toList.take 8)
        rw [l8] at hv
        have eF : encF (stV k s e) = s.data.toList.take 8 := by
          unfold stV
          rw [if_pos hk]
          unfold encF
          rw [if_pos hk, eR, uN_wrap64 _ hv]
          have hb := be_back (s.data.toList.take 8)
          rw [l8] at hb
          exact hb
        rw [eF, eS, List.take_append_drop]
        exact ⟨he, rfl⟩
    · rw [if_pos he] at h; omega
  · unfold stE at h
    rw [if_neg hk] at h
    unfold strE at h
    by_cases he : e = 0
    · rw [if_neg (by omega)] at h
      by_cases h0 : s.size = 0
      · rw [if_pos h0] at h; omega
      · rw [if_neg h0] at h
        by_cases h10 : (10 : Int) < (strN s : Int)
        · rw [if_pos h10] at h; omega
        · rw [if_neg h10] at h
          by_cases hle : s.size ≤ strN s
          · rw [if_pos hle] at h; omega
          · have hok : strOk s e 10 = true := by unfold strOk; rw [decide_eq_true_iff]; omega
            have eS : (stS k s e).data.toList = s.data.toList.drop (1 + strN s) := by
              unfold stS strS
              rw [if_neg hk, if_pos hok]
              exact drop_all s _
            have eR : (strR s e 10).data.toList = (s.data.toList.drop 1).take (strN s) := by
              unfold strR
              rw [if_pos hok, ext_list, show 1 + strN s - 1 = strN s by omega]
            have eF : encF (stV k s e) = strB ((s.data.toList.drop 1).take (strN s)) := by
              unfold stV
              rw [if_neg hk]
              unfold encF
              rw [if_neg hk, eR]
            refine ⟨he, ?_⟩
            rw [eF, eS]
            cases hd : s.data.toList with
            | nil => rw [hd] at hsz; simp at hsz; omega
            | cons c t =>
              have hN : strN s = c.toNat := by unfold strN; rw [hd]; rfl
              have hlt : (t.take (strN s)).length = strN s := by
                rw [hd, List.length_cons] at hsz
                rw [List.length_take]
                omega
              show strB (t.take (strN s)) ++ (c :: t).drop (1 + strN s) = c :: t
              rw [strB_small _ (by rw [hlt]; omega), hlt, hN, UInt8.ofNat_toNat, show 1 + c.toNat = c.toNat + 1 by omega, List.drop_succ_cons, List.cons_append, List.take_append_drop]
    · rw [if_pos he] at h; omega
theorem rest_only (ks : List Int) : ∀ (s : ByteArray) (e : Int), restD ks s e = 0 → e = 0 ∧ encR (restL ks s e) = s.data.toList := by
  induction ks with
  | nil =>
    intro s e h
    have hsz : s.data.toList.length = s.size := by rw [Array.length_toList]; rfl
    unfold restD doneE at h
    by_cases h1 : e = 0 ∧ s.size ≠ 0
    · rw [if_pos h1] at h; omega
    · rw [if_neg h1] at h
      refine ⟨h, ?_⟩
      have : s.data.toList = [] := List.eq_nil_of_length_eq_zero (by rw [hsz]; omega)
      rw [this]
      rfl
  | cons k ks ih =>
    intro s e h
    have h2 := ih _ _ h
    have h3 := st_only k s e h2.1
    refine ⟨h3.1, ?_⟩
    have e2 : encR (restL (k :: ks) s e) = encF (stV k s e) ++ encR (restL ks (stS k s e) (stE k s e)) := by simp [encR, restL]
    rw [e2, h2.2]
    exact h3.2
theorem rdRow_only (ks : List Int) (u x : Int) (key : List UInt8) (rest : ByteArray) (r : List V) (hk : key.length ≤ maxLen) (h : rdRow ks u x key rest = .ok r) : fitE ks u x r = 0 ∧ rowK ks u x r = key ∧ rowR ks u x r = rest.data.toList ∧ (∀ y ∈ r, y.wf) := by
  by_cases hr : rightS ks u x = true
  · cases hp : pRead key with
    | error e => rw [rdRow_err hr hp] at h; cases h
    | ok l =>
      by_cases h3 : l.length = 1 ∧ restD (ks.drop 1) rest 0 = 0 ∧ fitE ks u x (l ++ restL (ks.drop 1) rest 0) = 0
      · rw [rdRow_ok hr hp h3] at h
        cases h
        obtain ⟨h1, h2, h4⟩ := h3
        obtain ⟨y, rfl⟩ : ∃ y, l = [y] := List.length_eq_one_iff.1 h1
        have hb := pRead_back key hk [y] hp
        refine ⟨h4, ?_, ?_, ?_⟩
        · unfold rowK
          rw [if_pos h4]
          exact hb.1
        · unfold rowR
          rw [if_pos h4]
          exact (rest_only _ _ _ h2).2
        · intro z hz
          rcases List.mem_append.1 hz with hz | hz
          · exact hb.2.2.1 z hz
          · exact restL_wf _ _ _ z hz
      · rw [rdRow_bad hr hp h3] at h; cases h
  · rw [rdRow_wrong (by simpa using hr)] at h; cases h

end Go.Proofs.Ytiledkdoabdnnab
