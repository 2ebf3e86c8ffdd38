/- Contracts, over the turned program: rows.Read answers the row of a key and a rest, or the error, as the plain words say. Conditions: those that each theorem states. -/
import Derived.Test.YtiledkdoabdnnabRRow
namespace Go.Proofs.Ytiledkdoabdnnab
open Go.RowKit
set_option linter.unusedVariables false

/-- The next value of a rest that a reader stands ahead of, what is left, and the error. -/
def stV (k : Int) (s : ByteArray) (e : Int) : V := if k = 1 then ⟨k, wrap64 (val (rawR s e (wid 8)).data.toList : Int), ⟨#[]⟩⟩ else ⟨k, 0, strR s e 10⟩
def stS (k : Int) (s : ByteArray) (e : Int) : ByteArray := if k = 1 then rawS s e (wid 8) else strS s e 10
def stE (k : Int) (s : ByteArray) (e : Int) : Int := if k = 1 then rawE s e (wid 8) else strE s e 10
def restL : List Int → ByteArray → Int → List V
  | [], _, _ => []
  | k :: ks, s, e => stV k s e :: restL ks (stS k s e) (stE k s e)
def restD : List Int → ByteArray → Int → Int
  | [], s, e => doneE s e
  | k :: ks, s, e => restD ks (stS k s e) (stE k s e)
theorem restL_len (ks : List Int) : ∀ s e, (restL ks s e).length = ks.length := by
  induction ks with
  | nil => intro s e; rfl
  | cons k ks ih => intro s e; simp [restL, ih]
theorem ext_size_le (s : ByteArray) (a b : Nat) : (s.extract a b).size ≤ s.size := by rw [ByteArray.size_extract]; omega
theorem stS_size (k : Int) (s : ByteArray) (e : Int) : (stS k s e).size ≤ s.size := by
  unfold stS rawS strS
  split
  · split
    · exact Nat.le_refl _
    · exact ext_size_le _ _ _
  · split
    · exact ext_size_le _ _ _
    · exact Nat.le_refl _
theorem strR_size (s : ByteArray) (e : Int) : (strR s e 10).size ≤ 10 := by
  unfold strR
  split
  · next h =>
    unfold strOk at h
    have h := of_decide_eq_true h
    rw [ByteArray.size_extract]
    omega
  · simp
theorem wrap64_range (n : Int) : -9223372036854775808 ≤ wrap64 n ∧ wrap64 n < 9223372036854775808 := by
  unfold wrap64
  omega
theorem stV_wf (k : Int) (s : ByteArray) (e : Int) : (stV k s e).wf := by
  unfold stV
  split
  · exact ⟨(wrap64_range _).1, (wrap64_range _).2, by show (⟨#[]⟩ : ByteArray).size ≤ maxLen; decide⟩
  · exact ⟨by show (-9223372036854775808 : Int) ≤ 0; decide, by show (0 : Int) < 9223372036854775808; decide, by have := strR_size s e; show (strR s e 10).size ≤ maxLen; unfold maxLen; omega⟩
theorem restL_wf (ks : List Int) : ∀ s e, ∀ y ∈ restL ks s e, y.wf := by
  induction ks with
  | nil => intro s e y hy; simp [restL] at hy
  | cons k ks ih =>
    intro s e y hy
    simp only [restL, List.mem_cons] at hy
    rcases hy with rfl | hy
    · exact stV_wf _ _ _
    · exact ih _ _ y hy

theorem results_vb1 {fn : Func} {p : Tmp} (h : fn.results = #[.cell p 38]) (tmps : Array Value) (g : Nat) (W : World) (x : V) (hp : tmps.getD p undef = .pointer (some ⟨g, 0, none⟩)) (hV : Vb W g x) :
    (results fn tmps).run Try.prog W = .ok x.val W := by
  have e : (results fn tmps).run Try.prog W = ((asAddr (tmps.getD p undef)).run Try.prog W).andThen fun a w1 => (loadVar 38 a).run Try.prog w1 := by
    simp only [results, h]
    simp [Sem.run_bind, Result.andThen]
  rw [e, hp]
  simp [asAddr, Result.andThen, load_vb hV]

set_option maxRecDepth 100000 in
set_option maxHeartbeats 400000 in
theorem rreadValue_any (b : Nat) (s : ByteArray) (e k : Int) (w : World) (h : Rd w b s e) (hs : s.size ≤ maxLen) :
    Calls Try.prog 41 #[.pointer (some ⟨b, 0, none⟩), .int .i64 k] w fun y w' => y = .returned (V.val (stV k s e)) ∧ Rd w' b (stS k s e) (stE k s e) ∧ w.grownBy w' (some b) := by
  have hV := Vb.new w ⟨0, 0, ⟨#[]⟩⟩
  have hga := World.grownBy_alloc w (.cells #[.int .i64 0, .int .i64 0, .string ⟨#[]⟩] 38) none
  have h0 := h.kept hga (by simp)
  have hbl := h.lt
  by_cases hk : k = 1
  · have hk' : (k == 1) = true := by simp [hk]
    have eV : stV k s e = ⟨k, wrap64 (val (rawR s e (wid 8)).data.toList : Int), ⟨#[]⟩⟩ := by unfold stV; rw [if_pos hk]
    have eS : stS k s e = rawS s e (wid 8) := by unfold stS; rw [if_pos hk]
    have eE : stE k s e = rawE s e (wid 8) := by unfold stE; rw [if_pos hk]
    rw [eV, eS, eE]
    obtain ⟨N, HN⟩ : ∃ N : Int, Hid (wrap64 (val (rawR s e (wid 8)).data.toList : Int) = N) := ⟨_, rfl⟩
    rw [HN.out]
    clear hk eV eS eE h
    go_enter Try.func41, Try.ntmps41
    go_wp2_with fail
    refine (rnum_any b s e 8 _ h0 hs).mono ?_
    rintro e1 w1 ⟨rfl, hR1, hg1⟩
    have hV1 := hV.kept hg1 (by simp; omega)
    have hG1 := grown_trans (grown_any (row := some b) hga) hg1 (.inl rfl)
    have d0 := hV1.c0; have d1 := hV1.c1; have d2 := hV1.c2; have f0 := hV1.fz 0; have f1 := hV1.fz 1; have f2 := hV1.fz 2
    dsimp only at d0 d1 d2
    have hst := told_end (y := ⟨k, N, ⟨#[]⟩⟩) (w0 := w) hG1 hV1 (Nat.le_refl _)
    have hRe : Rd (((w1.setCell ⟨w.heap.size, 0, none⟩ (.int .i64 k)).setCell ⟨w.heap.size, 1, none⟩ (.int .i64 N)).setCell ⟨w.heap.size, 2, none⟩ (.string ⟨#[]⟩)) b (rawS s e (wid 8)) (rawE s e (wid 8)) := hR1.kept (hV1.store3 ⟨k, N, ⟨#[]⟩⟩).2 (by simp; omega)
    clear hV hV1 hG1 hga hg1 h0 hR1
    generalize w.heap.size = g at *
    go_wp2_with fail
    rw [HN.out]
    refine bodyPost_ret (results_vb1 rfl _ g _ ⟨k, N, ⟨#[]⟩⟩ rfl hst.1) rfl ?_
    exact ⟨rfl, hRe, hst.2⟩
  · have hk' : (k == 1) = false := by simp [hk]
    have eV : stV k s e = ⟨k, 0, strR s e 10⟩ := by unfold stV; rw [if_neg hk]
    have eS : stS k s e = strS s e 10 := by unfold stS; rw [if_neg hk]
    have eE : stE k s e = strE s e 10 := by unfold stE; rw [if_neg hk]
    rw [eV, eS, eE]
    obtain ⟨N, HN⟩ : ∃ N : ByteArray, Hid (strR s e 10 = N) := ⟨_, rfl⟩
    rw [HN.out]
    clear hk eV eS eE h
    go_enter Try.func41, Try.ntmps41
    go_wp2_with fail
    refine (rstr_any b s e 10 _ h0 hs).mono ?_
    rintro e1 w1 ⟨rfl, hR1, hg1⟩
    rw [HN.out]
    have hV1 := hV.kept hg1 (by simp; omega)
    have hG1 := grown_trans (grown_any (row := some b) hga) hg1 (.inl rfl)
    have d0 := hV1.c0; have d1 := hV1.c1; have d2 := hV1.c2; have f0 := hV1.fz 0; have f1 := hV1.fz 1; have f2 := hV1.fz 2
    dsimp only at d0 d1 d2
    have hst := told_end (y := ⟨k, 0, N⟩) (w0 := w) hG1 hV1 (Nat.le_refl _)
    have hRe : Rd (((w1.setCell ⟨w.heap.size, 0, none⟩ (.int .i64 k)).setCell ⟨w.heap.size, 1, none⟩ (.int .i64 0)).setCell ⟨w.heap.size, 2, none⟩ (.string N)) b (strS s e 10) (strE s e 10) := hR1.kept (hV1.store3 ⟨k, 0, N⟩).2 (by simp; omega)
    clear hV hV1 hG1 hga hg1 h0 hR1
    generalize w.heap.size = g at *
    go_wp2_with fail
    refine bodyPost_ret (results_vb1 rfl _ g _ ⟨k, 0, N⟩ rfl hst.1) rfl ?_
    exact ⟨rfl, hRe, hst.2⟩

set_option maxRecDepth 100000 in
set_option maxHeartbeats 400000 in
theorem readRest_any (kv : Value) (ks : List Int) (s : ByteArray) (w : World) (hK : Kd w kv ks) (h4 : ks.length ≤ 4) (hs : s.size ≤ maxLen) :
    Calls Try.prog 26 #[kv, .string s] w fun y w' => ∃ v, y = .returned (.tuple #[v, .int .i64 (restD ks s 0)]) ∧ OwnV w' w.heap.size v (restL ks s 0) ∧ w.grownBy w' none := by
  obtain ⟨i0, hi, hz0, hz1, hz2⟩ := info_parts Try.info38
  obtain ⟨a, c, rfl, hc, hm, hL⟩ := hK
  have hlm : ks.length ≤ maxLen := Nat.le_trans hc hm
  unfold maxLen at hlm
  have hR0 := Rd.new w s 0
  have hga := World.grownBy_alloc w (.cells #[.string s, .int .i64 0] 65) none
  have Hs : Hid (s.size ≤ maxLen) := hs
  clear hc hm hs
  go_enter Try.func26, Try.ntmps26
  go_wp2_with (go_at_call 17; refine (from_any _ _).mono ?_; rintro e w1 ⟨rfl, rfl⟩)
  go_loopw [6, 13] (fun v i wr => ∃ (j : Nat) (acc : List V) (q : ByteArray) (e : Int), j ≤ ks.length ∧ i = .int .i64 j ∧ Hid (acc ++ restL (ks.drop j) q e = restL ks s 0) ∧ Hid (restD (ks.drop j) q e = restD ks s 0) ∧ Hid (q.size ≤ maxLen ∧ acc.length ≤ j) ∧ OwnV wr w.heap.size v acc ∧ v.ownBlock ≠ some w.heap.size ∧ Rd wr w.heap.size q e ∧ w.grownBy wr none) (fun _ i _ => ks.length - (intOf i).toNat)
  case atStart => exact ⟨0, [], s, 0, Nat.zero_le _, rfl, rfl, rfl, ⟨Hs.out, Nat.zero_le _⟩, OwnV.nil _ _, by simp [Value.ownBlock], hR0, hga⟩
  case round =>
    clear hR0 hga
    obtain ⟨j, acc, q, e, hj, rfl, Hl, Hd, Hq, ho, hne, hR, hg⟩ := hrel
    have hgs := hg.size
    have hRl := hR.lt
    by_cases hlt : j < ks.length
    · obtain ⟨b, off, rfl, hb, k0⟩ := hL j hlt
      rw [← cell_same (hg.block b hb (by simp))] at k0
      have hji : (j : Int) < (ks.length : Int) := by omega
      have Hb : Hid ((acc.length + 1) * 32 ≤ 140737488355328 ∧ acc.length + 1 ≤ maxLen) := by
        have h1 := Hq.out.2
        show _ ∧ _
        unfold maxLen
        omega
      have Hdr : Hid (ks.drop j = ks[j] :: ks.drop (j + 1)) := List.drop_eq_getElem_cons hlt
      generalize ks[j] = k at *
      have Hl2 : Hid ((acc ++ [stV k q e]) ++ restL (ks.drop (j + 1)) (stS k q e) (stE k q e) = restL ks s 0) := by
        show _ = _
        rw [← Hl.out, Hdr.out]
        simp [restL]
      have Hd2 : Hid (restD (ks.drop (j + 1)) (stS k q e) (stE k q e) = restD ks s 0) := by
        show _ = _
        rw [← Hd.out, Hdr.out]
        rfl
      have Hq2 : Hid ((stS k q e).size ≤ maxLen) := Nat.le_trans (stS_size k q e) Hq.out.1
      have hrow : ∀ k, u6.ownBlock = some k → w.heap.size ≤ k := fun k hk => (ho.lt k hk).1
      clear Hl Hd Hdr hL
      go_wp2_with fail
      refine (rreadValue_any _ q e k _ hR Hq.out.1).mono ?_
      rintro e1 w2 ⟨rfl, hR2, hg2⟩
      have ho2 := ho.kept hg2 (.inr hne)
      have hg2s := hg2.size
      generalize stV k q e = x at *
      generalize stS k q e = S at *
      generalize stE k q e = E at *
      have hR3 : Rd (w2.alloc (.cells #[.int .i64 x.k, .int .i64 x.n, .string x.s] 38)) w.heap.size S E := hR2.kept (World.grownBy_alloc _ _ none) (by simp)
      have hgg : w.grownBy (w2.alloc (.cells #[.int .i64 x.k, .int .i64 x.n, .string x.s] 38)) none := grown_up (grown_new hg hg2 (fun k hk => by cases hk; exact Nat.le_refl _)) (World.grownBy_alloc _ _ _)
      have hgs2 : w2.heap.size + 1 = (w2.alloc (.cells #[.int .i64 x.k, .int .i64 x.n, .string x.s] 38)).heap.size := by simp
      unfold V.val
      go_wp2_with (at_builtin; refine wpList_append_row _ rfl (.tmp 16) (.tmp 23) 39 39 rfl w.heap.size 38 i0 _ 3 32 Try.underlying39 hi hz0 rfl hz1 hz2 u6 _ _ rfl (ho2.alloc _) _ 1 (vcs [x]) rfl (src_val _ 39 38 Try.underlying39 x _ rfl) (by omega) Hb.out.1 Hb.out.2 (by simp; omega) ?_; intro v4 w4 ho4 hg4 hv4)
      have hgt : w.grownBy w4 none := grown_new hgg hg4 hrow
      have ho5 : OwnV w4 w.heap.size v4 (acc ++ [x]) := by
        unfold OwnV
        rw [vcs_append, List.length_append]
        exact ho4
      have hR4 : Rd w4 w.heap.size S E := hR3.kept hg4 (fun h => hne h.symm)
      have hne4 : v4.ownBlock ≠ some w.heap.size := by
        rcases hv4 with h | h
        · rw [h]; exact hne
        · rw [h]; simp; omega
      go_roundw
      case rel => exact ⟨j + 1, _, S, E, by omega, by go_num, Hl2, Hd2, ⟨Hq2.out, by have := Hq.out.2; simp; omega⟩, ho5, hne4, hR4, hgt⟩
      case measure => simp [intOf]; omega
    · have hji : ¬ (j : Int) < (ks.length : Int) := by omega
      have ej : ks.drop j = [] := List.drop_eq_nil_of_le (by omega)
      rw [ej] at Hl Hd
      have Hl2 : Hid (acc = restL ks s 0) := by have := Hl.out; simp only [restL, List.append_nil] at this; exact this
      have Hd2 : Hid (doneE q e = restD ks s 0) := Hd.out
      clear Hl Hd ej
      go_wp2_with (go_at_call 19; refine (done_any _ _ _ _ hR).mono ?_; rintro e1 w2 ⟨rfl, rfl⟩)
      go_ret2
      rw [← Hl2.out, ← Hd2.out]
      exact ⟨_, rfl, ho, hg⟩

/-- The row of a key and a rest, or the error. -/
def rdRow (ks : List Int) (u x : Int) (key : List UInt8) (rest : ByteArray) : Except Int (List V) :=
  if rightS ks u x then
    match pRead key with
    | .error _ => .error 10
    | .ok l => if l.length = 1 ∧ restD (ks.drop 1) rest 0 = 0 ∧ fitE ks u x (l ++ restL (ks.drop 1) rest 0) = 0 then .ok (l ++ restL (ks.drop 1) rest 0) else .error 10
  else .error 4
theorem rdRow_wrong {ks : List Int} {u x : Int} {key : List UInt8} {rest : ByteArray} (h : rightS ks u x = false) : rdRow ks u x key rest = .error 4 := by simp [rdRow, h]
theorem rdRow_err {ks : List Int} {u x : Int} {key : List UInt8} {rest : ByteArray} {e : Int} (h : rightS ks u x = true) (h2 : pRead key = .error e) : rdRow ks u x key rest = .error 10 := by simp [rdRow, h, h2]
theorem rdRow_bad {ks : List Int} {u x : Int} {key : List UInt8} {rest : ByteArray} {l : List V} (h : rightS ks u x = true) (h2 : pRead key = .ok l) (h3 : ¬ (l.length = 1 ∧ restD (ks.drop 1) rest 0 = 0 ∧ fitE ks u x (l ++ restL (ks.drop 1) rest 0) = 0)) : rdRow ks u x key rest = .error 10 := by
  unfold rdRow
  rw [if_pos h, h2]
  simp only []
  rw [if_neg h3]
theorem rdRow_ok {ks : List Int} {u x : Int} {key : List UInt8} {rest : ByteArray} {l : List V} (h : rightS ks u x = true) (h2 : pRead key = .ok l) (h3 : l.length = 1 ∧ restD (ks.drop 1) rest 0 = 0 ∧ fitE ks u x (l ++ restL (ks.drop 1) rest 0) = 0) : rdRow ks u x key rest = .ok (l ++ restL (ks.drop 1) rest 0) := by
  unfold rdRow
  rw [if_pos h, h2]
  simp only []
  rw [if_pos h3]

theorem Kd.drop1 {w : World} {b off c : Nat} {l : List Int} (h : Kd w (.slice (some ⟨b, off, none⟩) l.length c) l) (a' : Option Addr) (n' c' : Nat) (hn : n' = l.length - 1) (hc : c' = c - 1) (ha : 1 < l.length → a' = some ⟨b, off + 1, none⟩) : Kd w (.slice a' n' c') (l.drop 1) := by
  obtain ⟨a0, c0, h0, h1, h2, h3⟩ := h
  cases h0
  have e : (l.drop 1).length = l.length - 1 := by rw [List.length_drop]
  refine ⟨a', c', by rw [e, hn], by rw [e, hc]; omega, by rw [hc]; omega, fun i hi => ?_⟩
  rw [e] at hi
  obtain ⟨b1, off1, hb, hbl, k0⟩ := h3 (i + 1) (by omega)
  cases hb
  have e2 : (l.drop 1)[i]'(by rw [e]; exact hi) = l[i + 1]'(by omega) := by rw [List.getElem_drop]; congr 1; omega
  have eo : off + 1 + i = off + (i + 1) := by omega
  exact ⟨b, off + 1, ha (by omega), hbl, by rw [e2, eo]; exact k0⟩
/-- A tuple in memory, as what is appended. -/
theorem src_own {P : Program} {w : World} {base : Nat} {v : Value} {l : List V} (t e : TypeId) (ht : P.underlying t = some (.slice e)) (h : OwnV w base v l) : Src P 3 t v l.length (vcs l) w := by
  have h' := h
  rcases h.2 with ⟨rfl, h0⟩ | ⟨g, cap, cur, rfl, hb, hg, hnc, hcm, hcs, htake⟩
  · have : l = [] := List.eq_nil_of_length_eq_zero h0
    subst this
    exact Src.ofNil (e' := e) _ ht 0
  · exact Src.ofSlice (e' := e) _ ht ⟨g, 0, none⟩ l.length cap (vcs l) (vcs_len l) (World.ownsRow.cells h' (g := g) rfl) (vcs_one l)
theorem OwnV.weak {w : World} {base base' : Nat} {v : Value} {l : List V} (h : OwnV w base v l) (hb : base' ≤ base) : OwnV w base' v l := by
  refine ⟨h.1, ?_⟩
  rcases h.2 with hn | ⟨g, cap, cur, hv, hbg, hg, hr⟩
  · exact .inl hn
  · exact .inr ⟨g, cap, cur, hv, Nat.le_trans hb hbg, hg, hr⟩
theorem OwnV.shape1 {w : World} {base : Nat} {v : Value} {l : List V} (h : OwnV w base v l) : ∃ a c, v = .slice a l.length c := by
  obtain ⟨a, c, h1, _⟩ := h.tup
  exact ⟨a, c, h1⟩

set_option maxRecDepth 100000 in
set_option maxHeartbeats 400000 in
theorem rowsRead_any (kv : Value) (ks : List Int) (u x : Int) (key rest : ByteArray) (w : World) (hK : Kd w kv ks) (hk : key.size ≤ 1099511627776) (hr : rest.size ≤ maxLen) :
    Calls Try.prog 12 #[sval kv u x, .string key, .string rest] w fun e w' => ∃ v er, e = .returned (.tuple #[v, .int .i64 er]) ∧ ToldL w' w.heap.size (rdRow ks u x key.data.toList rest) v er ∧ w.grownBy w' none := by
  have hga := World.grownBy_alloc w (.cells #[kv, .int .i64 u, .int .i64 x] 24) none
  have hS := Sb.new w kv u x
  have hKa := hK.keptN hga
  have hgas : w.heap.size < (w.alloc (.cells #[kv, .int .i64 u, .int .i64 x] 24)).heap.size := by simp
  obtain ⟨wa, Ha⟩ : ∃ wa, Hid (wa = w.alloc (.cells #[kv, .int .i64 u, .int .i64 x] 24)) := ⟨_, rfl⟩
  rw [← Ha.out] at hga hS hKa hgas
  obtain ⟨i0, hi, hz0, hz1, hz2⟩ := info_parts Try.info38
  have Hk : Hid (key.size ≤ 1099511627776) := hk
  have Hr : Hid (rest.size ≤ maxLen) := hr
  unfold sval
  clear hk hr
  by_cases hright : rightS ks u x = true
  · have hlen := rightS_len ks u x hright
    cases hp : pRead key.data.toList with
    | error e0 =>
      have hE : Hid (rdRow ks u x key.data.toList rest = .error 10) := rdRow_err hright hp
      have Hp : Hid (pRead key.data.toList = .error e0) := hp
      have hne : (e0 != 0) = true := by rcases pRead_errs _ _ hp with rfl | rfl <;> rfl
      clear hp
      go_enter Try.func12, Try.ntmps12
      go_wp2_with fail
      rw [← Ha.out]
      refine (rightS_any _ ks u x _ hKa).mono ?_
      rintro e w1 ⟨rfl, hg1⟩
      rw [hright]
      go_wp2_with (go_at_call 25; refine (read_any _ _ Hk.out).mono ?_; rintro e w2 ⟨v2, er2, rfl, hT2, hg2⟩; rw [Hp.out] at hT2; obtain ⟨rfl, rfl⟩ := hT2)
      go_ret2
      rw [hE.out]
      exact ⟨_, _, rfl, ⟨rfl, rfl⟩, grown_up (grown_up hga hg1) hg2⟩
    | ok l =>
      have Hp : Hid (pRead key.data.toList = .ok l) := hp
      have hsz : key.data.toList.length = key.size := by rw [Array.length_toList]; rfl
      have Hwl : Hid (∀ y ∈ l, y.wf) := (pRead_back _ (by rw [hsz]; have := Hk.out; unfold maxLen; omega) l hp).2.2.1
      clear hsz
      by_cases hl : l.length = 1
      · have hl' : ((l.length : Int) != 1) = false := by simp [hl]
        have Hl1 : Hid (l.length = 1) := hl
        have hKa2 := hKa
        obtain ⟨ka, kc, rfl, hkc, hkm, hkL⟩ := hKa
        have hklm : ks.length ≤ maxLen := Nat.le_trans hkc hkm
        unfold maxLen at hklm
        obtain ⟨kb, koff, rfl, hkb, k0⟩ := hkL 0 (by omega)
        have hl0 : (1 : Int) ≤ (ks.length : Int) := by omega
        have H4 : Hid ((ks.drop 1).length ≤ 4) := by show _ ≤ _; rw [List.length_drop]; omega
        have Hcut : Hid (∀ W : World, wa.grownBy W none → ∀ (a' : Option Addr) (n' c' : Nat), n' = ks.length - 1 → c' = kc - 1 → (1 < ks.length → a' = some ⟨kb, koff + 1, none⟩) → Kd W (.slice a' n' c') (ks.drop 1)) := fun W h a' n' c' h1 h2 h3 => (hKa2.keptN h).drop1 a' n' c' h1 h2 h3
        have hkv : Kd wa (.slice (some ⟨kb, koff, none⟩) ks.length kc) ks := hKa2
        obtain ⟨others, Ho⟩ : ∃ others, Hid (restL (ks.drop 1) rest 0 = others) := ⟨_, rfl⟩
        obtain ⟨D, HD⟩ : ∃ D, Hid (restD (ks.drop 1) rest 0 = D) := ⟨_, rfl⟩
        have Hol : Hid (others.length ≤ 4) := by show _ ≤ _; rw [← Ho.out, restL_len]; exact H4.out
        have Hrow : Hid (∀ y ∈ l ++ others, y.wf) := by
          intro y hy
          rcases List.mem_append.1 hy with h | h
          · exact Hwl.out y h
          · rw [← Ho.out] at h; exact restL_wf _ _ _ y h
        have Hb : Hid ((l.length + others.length) * 32 ≤ 140737488355328 ∧ l.length + others.length ≤ maxLen ∧ 0 < l.length + others.length) := by
          have := Hol.out
          have := Hl1.out
          show _ ∧ _ ∧ _
          unfold maxLen
          omega
        have HX : Hid (rdRow ks u x key.data.toList rest = if D = 0 ∧ fitE ks u x (l ++ others) = 0 then .ok (l ++ others) else .error 10) := by
          show _ = _
          by_cases h3 : restD (ks.drop 1) rest 0 = 0 ∧ fitE ks u x (l ++ restL (ks.drop 1) rest 0) = 0
          · rw [rdRow_ok hright hp ⟨hl, h3⟩, ← HD.out, ← Ho.out, if_pos h3]
          · rw [rdRow_bad hright hp (fun h => h3 h.2), ← HD.out, ← Ho.out, if_neg h3]
        clear hp hkL k0 hKa2 hl
        go_enter Try.func12, Try.ntmps12
        go_wp2_with fail
        rw [← Ha.out]
        refine (rightS_any _ ks u x _ hkv).mono ?_
        rintro e w1 ⟨rfl, hg1⟩
        rw [hright]
        go_wp2_with fail
        refine (read_any _ _ Hk.out).mono ?_
        rintro e w2 ⟨v2, er2, rfl, hT2, hg2⟩
        rw [Hp.out] at hT2
        obtain ⟨rfl, ho2⟩ := hT2
        obtain ⟨a2, cc2, rfl⟩ := ho2.shape1
        have hG2 : wa.grownBy w2 none := grown_up hg1 hg2
        have ho2' : OwnV w2 wa.heap.size (.slice a2 l.length cc2) l := ho2.weak hg1.size
        have s0 := (hS.keptN hG2).c0
        have hG2s := hG2.size
        have Hcall : Hid (∀ (a' : Option Addr) (n' c' : Nat), n' = ks.length - 1 → c' = kc - 1 → (1 < ks.length → a' = some ⟨kb, koff + 1, none⟩) → Calls Try.prog 26 #[.slice a' n' c', .string rest] w2 fun y w' => ∃ v, y = .returned (.tuple #[v, .int .i64 D]) ∧ OwnV w' w2.heap.size v others ∧ w2.grownBy w' none) := by
          intro a' n' c' h1 h2 h3
          have h := readRest_any (.slice a' n' c') (ks.drop 1) rest w2 (Hcut.out w2 hG2 a' n' c' h1 h2 h3) H4.out Hr.out
          rw [HD.out, Ho.out] at h
          exact h
        clear ho2 hg1 hg2 Hcut
        by_cases hc1 : kc = 1
        all_goals try subst hc1
        all_goals
          go_wp2_with fail
          refine (Hcall.out _ _ _ (by omega) (by omega) (fun _ => by first | rfl | omega)).mono ?_
          rintro e w3 ⟨v3, rfl, ho3, hg3⟩
          by_cases hD : D = 0
          · subst hD
            have ho23 := ho2'.kept hg3 (by cases (Value.slice a2 l.length cc2).ownBlock <;> simp)
            have hG3 := grown_up hG2 hg3
            have hrow : ∀ k, (Value.slice a2 l.length cc2).ownBlock = some k → wa.heap.size ≤ k := fun k hk => (ho2'.lt k hk).1
            have hsrc := src_own (P := Try.prog) 39 38 Try.underlying39 ho3
            have Hbs : Hid (wa.heap.size ≤ w3.heap.size) := hG3.size
            clear ho2' Hcall s0
            go_wp2_with (at_builtin; refine wpList_append_row _ rfl (.tmp 37) (.tmp 38) 40 39 rfl wa.heap.size 38 i0 _ 3 32 Try.underlying40 hi hz0 rfl hz1 hz2 _ _ _ rfl ho23 _ others.length (vcs others) rfl hsrc Hb.out.2.2 Hb.out.1 Hb.out.2.1 Hbs.out ?_; intro v4 w4 ho4 hg4 hv4; have hG4 := grown_new hG3 hg4 hrow; have q0 := (hS.keptN hG4).c0; have q1 := (hS.keptN hG4).c1; have q2 := (hS.keptN hG4).c2)
            have ho5 : OwnV w4 wa.heap.size v4 (l ++ others) := by
              unfold OwnV
              rw [vcs_append, List.length_append]
              exact ho4
            refine (fits_row _ ks u x v4 (l ++ others) _ (hkv.keptN hG4) ho5.tup Hrow.out).mono ?_
            rintro e w5 ⟨rfl, hg5⟩
            have ho6 := (ho5.kept hg5 (by cases v4.ownBlock <;> simp)).weak (Nat.le_of_lt hgas)
            have HG : Hid (w.grownBy w5 none) := grown_up (grown_up hga hG4) hg5
            clear hG4 hg5 hG3 ho5 ho4 hsrc ho23 ho3 hG2
            rcases fitE_cases ks u x (l ++ others) with hF | hF
            · have HX2 : Hid (rdRow ks u x key.data.toList rest = .ok (l ++ others)) := by show _ = _; rw [HX.out, if_pos ⟨by first | rfl | trivial, hF⟩]
              rw [hF]
              go_wp2
              go_ret2
              rw [HX2.out]
              exact ⟨_, _, rfl, ⟨rfl, ho6⟩, HG.out⟩
            · have hF0 : fitE ks u x (l ++ others) ≠ 0 := by simpa using hF
              have HX2 : Hid (rdRow ks u x key.data.toList rest = .error 10) := by show _ = _; rw [HX.out, if_neg (fun h => hF0 h.2)]
              generalize fitE ks u x (l ++ others) = E at *
              go_wp2
              go_ret2
              rw [HX2.out]
              exact ⟨_, _, rfl, ⟨rfl, rfl⟩, HG.out⟩
          · have hD' : (D != 0) = true := by simp [hD]
            have HX2 : Hid (rdRow ks u x key.data.toList rest = .error 10) := by show _ = _; rw [HX.out, if_neg (fun h => hD h.1)]
            go_wp2
            go_ret2
            rw [HX2.out]
            exact ⟨_, _, rfl, ⟨rfl, rfl⟩, grown_up (grown_up hga hG2) hg3⟩
      · have hl' : ((l.length : Int) != 1) = true := by simp; omega
        have hE : Hid (rdRow ks u x key.data.toList rest = .error 10) := rdRow_bad hright hp (fun h => hl h.1)
        clear hp
        go_enter Try.func12, Try.ntmps12
        go_wp2_with fail
        rw [← Ha.out]
        refine (rightS_any _ ks u x _ hKa).mono ?_
        rintro e w1 ⟨rfl, hg1⟩
        rw [hright]
        go_wp2_with (go_at_call 25; refine (read_any _ _ Hk.out).mono ?_; rintro e w2 ⟨v2, er2, rfl, hT2, hg2⟩; rw [Hp.out] at hT2; obtain ⟨rfl, ho2⟩ := hT2; obtain ⟨a2, c2, rfl⟩ := ho2.shape1)
        go_ret2
        rw [hE.out]
        exact ⟨_, _, rfl, ⟨rfl, rfl⟩, grown_up (grown_up hga hg1) hg2⟩
  · have hr' : rightS ks u x = false := by simpa using hright
    have hE : Hid (rdRow ks u x key.data.toList rest = .error 4) := rdRow_wrong hr'
    go_enter Try.func12, Try.ntmps12
    go_wp2_with fail
    rw [← Ha.out]
    refine (rightS_any _ ks u x _ hKa).mono ?_
    rintro e w1 ⟨rfl, hg1⟩
    rw [hr']
    go_wp2
    go_ret2
    rw [hE.out]
    exact ⟨_, _, rfl, ⟨rfl, rfl⟩, grown_up hga hg1⟩

end Go.Proofs.Ytiledkdoabdnnab
