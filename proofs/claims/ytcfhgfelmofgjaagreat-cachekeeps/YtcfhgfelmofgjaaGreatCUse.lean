/- Contracts, over the turned program: the document's cache (factotumref07). Conditions: those that each theorem states. -/
import Derived.Test.YtcfhgfelmofgjaaGreatCFill
import Derived.Deep.RegionLaw
import Derived.BigRegion
namespace Go.Proofs.YtcfhgfelmofgjaaGreat
open Go.RowKit
set_option linter.unusedVariables false

/-- An append to numbers that a call itself has laid, also of none to none. -/
theorem app_ints (w : World) (base : Nat) (v : Value) (l : List Int) (x : Value) (k : List Int) (hO : Ow (Value.int .i64) 3 w base v l) (hs : Src Tryz.prog 1 46 x k.length (k.map (Value.int .i64)) w) (hb : base ≤ w.heap.size) (hl : l.length + k.length ≤ 1000) :
    ∃ v' w', (Builtin.append_ #[46, 46] 46 #[v, x]).run Tryz.prog w = .ok v' w' ∧ Ow (Value.int .i64) 3 w' base v' (l ++ k) ∧ w.grownBy w' v.ownBlock ∧ (v'.ownBlock = v.ownBlock ∨ v'.ownBlock = some w.heap.size) := by
  obtain ⟨i0, hi, hz0, hz1, hz2⟩ := info_parts infoI
  by_cases h0 : 0 < l.length + k.length
  · obtain ⟨v', w', h1, h2, h3, h4⟩ := run_append_own_row (P := Tryz.prog) w base 46 46 46 3 i0 _ 1 8 Tryz.underlying46 hi hz0 (by rfl) hz1 hz2 v l.length (l.map (Value.int .i64)) hO x k.length (k.map (Value.int .i64)) hs h0 (by omega) (by unfold maxLen; omega) hb
    refine ⟨v', w', h1, ?_, h3, h4⟩
    unfold Ow
    rw [List.length_append, List.map_append]
    exact h2
  · have hl0 : l = [] := List.eq_nil_of_length_eq_zero (by omega)
    have hk0 : k = [] := List.eq_nil_of_length_eq_zero (by omega)
    subst hl0 hk0
    have hs' : Src Tryz.prog i0.size 46 x 0 [] w := by rw [hz1]; exact hs
    have hf := hs'.cells
    refine ⟨v, w, ?_, hO, ⟨rfl, rfl, rfl, Nat.le_refl _, fun _ _ _ => rfl⟩, .inl rfl⟩
    rcases hO.2 with ⟨rfl, _⟩ | ⟨g, cap, cur, rfl, _⟩
    · simp [Builtin.append_, run_underlying Tryz.underlying46, sizeOf, typeInfo, hi, hs'.len, hf]
    · simp [Builtin.append_, run_underlying Tryz.underlying46, sizeOf, typeInfo, hi, hs'.len, hf, Addr.add_lit, storeCells]
theorem wp_app_at {P : Program} {w : World} {o : Oper} {a : Act} {K : Act → World → Prop} {Q : Exit → Act → World → Prop} (s x : Operand) (t tx : TypeId)
    (ho : o.op = .call { callee := .builtin .append, args := #[s, x], argTypes := #[t, tx] }) (v xv : Value) (hs : a.eval s = v) (hx : a.eval x = xv) {v' : Value} {w' : World}
    (hr : (Builtin.append_ #[t, tx] o.type #[v, xv]).run P w = .ok v' w') (h : K (a.put o.dst v') w') : o.wp P a w K Q := by
  unfold Oper.wp execOp
  simp only [ho, resolve, invoke, builtin, Sem.run_bind, Sem.run_pure, Result.andThen_ok, List.map_toArray, List.map_cons, List.map_nil, hs, hx, hr]
  exact h
theorem wpList_app_at {P : Program} {w : World} {ops : Array Oper} {rest : List Oper} {o : Oper} {a : Act} {Q : Exit → Act → World → Prop} (hgd : o.guard = none) (s x : Operand) (t tx : TypeId)
    (ho : o.op = .call { callee := .builtin .append, args := #[s, x], argTypes := #[t, tx] }) (v xv : Value) (hs : a.eval s = v) (hx : a.eval x = xv) {v' : Value} {w' : World}
    (hr : (Builtin.append_ #[t, tx] o.type #[v, xv]).run P w = .ok v' w') (h : wpList P ops Q rest (a.put o.dst v') w') : wpList P ops Q (o :: rest) a w :=
  wpList_plain hgd fun _ hK => wp_app_at s x t tx ho v xv hs hx hr (hK _ _ h)
theorem pstep_app_at {P : Program} {w : World} {ops : Array Oper} {o : Oper} {a : Act} {K : Act → World → Prop} {Q : Exit → Act → World → Prop} {E : Prop} (hgd : o.guard = none) (s x : Operand) (t tx : TypeId)
    (ho : o.op = .call { callee := .builtin .append, args := #[s, x], argTypes := #[t, tx] }) (v xv : Value) (hs : a.eval s = v) (hx : a.eval x = xv) {v' : Value} {w' : World}
    (hr : (Builtin.append_ #[t, tx] o.type #[v, xv]).run P w = .ok v' w') (h : K (a.put o.dst v') w') : if Region.wanted o (yielded ops a.tmps) = true then Oper.wp P o a w K Q else E := by
  have hw : Region.wanted o (yielded ops a.tmps) = true := by simp [Region.wanted, hgd]
  rw [if_pos hw]
  exact wp_app_at s x t tx ho v xv hs hx hr h
/-- A slice of numbers that lies in blocks of G. -/
def Kps (G : Nat → Prop) (w : World) (v : Value) (l : List Int) : Prop :=
  ∃ a c, v = .slice a l.length c ∧ l.length ≤ c ∧ c ≤ maxLen ∧ ∀ i (h : i < l.length), ∃ b off, a = some ⟨b, off, none⟩ ∧ G b ∧ b < w.heap.size ∧ w.cell? ⟨b, off + i, none⟩ = some (.int .i64 l[i])
theorem Kps.kept {G S : Nat → Prop} {w w' : World} {v : Value} {l : List Int} (h : Kps G w v l) (hk : Kp S w w') (hS : ∀ k, G k → ¬ S k) : Kps G w' v l := by
  obtain ⟨a, c, rfl, h1, h2, h3⟩ := h
  refine ⟨a, c, rfl, h1, h2, fun i hi => ?_⟩
  obtain ⟨b, off, rfl, hb, hl, hc⟩ := h3 i hi
  exact ⟨b, off, rfl, hb, Nat.lt_of_lt_of_le hl hk.size, hk.cell hc (hS b hb)⟩
theorem Kps.mono {G G' : Nat → Prop} {w : World} {v : Value} {l : List Int} (h : Kps G w v l) (hG : ∀ k, k < w.heap.size → G k → G' k) : Kps G' w v l := by
  obtain ⟨a, c, rfl, h1, h2, h3⟩ := h
  refine ⟨a, c, rfl, h1, h2, fun i hi => ?_⟩
  obtain ⟨b, off, rfl, hb, hl, hc⟩ := h3 i hi
  exact ⟨b, off, rfl, hG b hl hb, hl, hc⟩
theorem Kps.sl {G : Nat → Prop} {w : World} {v : Value} {l : List Int} (h : Kps G w v l) : Sl (Value.int .i64) w.heap.size w v l := by
  obtain ⟨a, c, rfl, h1, h2, h3⟩ := h
  refine ⟨a, c, rfl, h1, h2, fun i hi => ?_⟩
  obtain ⟨b, off, rfl, hb, hl, hc⟩ := h3 i hi
  exact ⟨b, off, rfl, hl, hc⟩
theorem Kps.src {G : Nat → Prop} {w : World} {v : Value} {l : List Int} (h : Kps G w v l) : Src Tryz.prog 1 46 v l.length (l.map (Value.int .i64)) w := by
  obtain ⟨a, c, rfl, h1, h2, h3⟩ := h
  cases l with
  | nil =>
    cases a with
    | none => exact Src.ofNil w Tryz.underlying46 c
    | some a => exact Src.ofSlice w Tryz.underlying46 a 0 c [] (by simp) (by simp) (by simp)
  | cons x l =>
    obtain ⟨b, off, rfl, _, _, _⟩ := h3 0 (by simp)
    refine Src.ofSlice w Tryz.underlying46 ⟨b, off, none⟩ _ c _ (by simp) (fun j u hu => ?_) (fun u hu => ?_)
    · rw [List.getElem?_map] at hu
      have hj : j < (x :: l).length := by
        cases hlt : (x :: l)[j]? with
        | none => rw [hlt] at hu; cases hu
        | some y => exact (List.getElem?_eq_some_iff.1 hlt).1
      obtain ⟨b', off', he, _, _, hc⟩ := h3 j hj
      cases he
      rw [List.getElem?_eq_getElem hj] at hu
      have plain : (⟨b, off, none⟩ : Addr).add j = ⟨b, off + j, none⟩ := by unfold Addr.add; split <;> simp_all
      rw [plain, hc]
      exact hu
    · obtain ⟨y, _, rfl⟩ := List.mem_map.1 hu
      rfl
theorem Kps.take {G : Nat → Prop} {w : World} {a : Option Addr} {n c : Nat} {l : List Int} (h : Kps G w (.slice a n c) l) (k : Nat) (hk : k ≤ l.length) : Kps G w (.slice a k c) (l.take k) := by
  obtain ⟨a', c', h0, h1, h2, h3⟩ := h
  cases h0
  have e : (l.take k).length = k := by rw [List.length_take]; omega
  refine ⟨a, c, by rw [e], by rw [e]; omega, h2, fun i hi => ?_⟩
  rw [e] at hi
  obtain ⟨b, off, ha, hb, hl, hc⟩ := h3 i (by omega)
  have e2 : (l.take k)[i]'(by rw [e]; exact hi) = l[i]'(by omega) := List.getElem_take
  exact ⟨b, off, ha, hb, hl, by rw [e2]; exact hc⟩
theorem Kps.drop {G : Nat → Prop} {w : World} {b off n c : Nat} {l : List Int} (h : Kps G w (.slice (some ⟨b, off, none⟩) n c) l) (k : Nat) (hk : k ≤ l.length) (a' : Option Addr) (ha : k < l.length → a' = some ⟨b, off + k, none⟩) : Kps G w (.slice a' (l.length - k) (c - k)) (l.drop k) := by
  obtain ⟨a0, c0, h0, h1, h2, h3⟩ := h
  cases h0
  have e : (l.drop k).length = l.length - k := by rw [List.length_drop]
  refine ⟨a', c - k, by rw [e], by rw [e]; omega, by omega, fun i hi => ?_⟩
  rw [e] at hi
  obtain ⟨b', off', he, hb, hl, hc⟩ := h3 (k + i) (by omega)
  cases he
  have e2 : (l.drop k)[i]'(by rw [e]; exact hi) = l[k + i]'(by omega) := List.getElem_drop ..
  exact ⟨b, off + k, ha (by omega), hb, hl, by rw [e2, show off + k + i = off + (k + i) by omega]; exact hc⟩
theorem Ow.kps {w : World} {base : Nat} {v : Value} {l : List Int} (h : Ow (Value.int .i64) 3 w base v l) : Kps (fun k => base ≤ k) w v l := by
  have h' := h
  obtain ⟨a, c, rfl, hc⟩ := h.open
  obtain ⟨a', c', he, h1, h2, h3⟩ := h'.sl
  cases he
  refine ⟨a, c, rfl, h1, h2, fun i hi => ?_⟩
  obtain ⟨g, rfl, hb, hcell⟩ := hc i hi
  exact ⟨g, 0, rfl, hb, lt_of_cell hcell, by rw [Nat.zero_add]; exact hcell⟩
/-- The document's cache in memory. -/
structure Rf (w : World) (r : Nat) (G : Nat → Prop) (sz : Nat) (s : St) : Prop where
  c0 : w.cell? ⟨r, 0, none⟩ = some (.int .i64 (sz : Int))
  c1 : ∃ a c, w.cell? ⟨r, 1, none⟩ = some (.slice a s.K.length c) ∧ Kps (fun k => G k ∧ k ≠ r) w (.slice a s.K.length c) s.K
  c2 : w.cell? ⟨r, 2, none⟩ = some (.int .i64 (s.h : Int))
  c3 : w.cell? ⟨r, 3, none⟩ = some (.int .i64 (s.m : Int))
  fr : ∀ j, w.frozen? ⟨r, j, none⟩ = false
theorem Rf.lt {w : World} {r : Nat} {G : Nat → Prop} {sz : Nat} {s : St} (h : Rf w r G sz s) : r < w.heap.size := lt_of_cell h.c0
theorem Rf.kept {w w' : World} {r : Nat} {G S : Nat → Prop} {sz : Nat} {s : St} (h : Rf w r G sz s) (hk : Kp S w w') (hr : ¬ S r) (hS : ∀ k, G k → ¬ S k) : Rf w' r G sz s := by
  obtain ⟨a, c, h1, h2⟩ := h.c1
  exact ⟨hk.cell h.c0 hr, ⟨a, c, hk.cell h1 hr, h2.kept hk (fun k hk => hS k hk.1)⟩, hk.cell h.c2 hr, hk.cell h.c3 hr, fun j => by rw [hk.frozen h.lt hr]; exact h.fr j⟩
theorem Rf.mono {w : World} {r : Nat} {G G' : Nat → Prop} {sz : Nat} {s : St} (h : Rf w r G sz s) (hG : ∀ k, k < w.heap.size → G k → G' k) : Rf w r G' sz s := by
  obtain ⟨a, c, h1, h2⟩ := h.c1
  exact ⟨h.c0, ⟨a, c, h1, h2.mono (fun k hl hk => ⟨hG k hl hk.1, hk.2⟩)⟩, h.c2, h.c3, h.fr⟩
set_option maxRecDepth 100000 in
set_option maxHeartbeats 400000 in
theorem rcnew_any (z : Int) (w : World) : Calls Tryz.prog 14 #[.int .i64 z] w fun e w' => ∃ r, e = .returned (.pointer (some ⟨r, 0, none⟩)) ∧ w.heap.size ≤ r ∧ Rf w' r (fun k => w.heap.size ≤ k) (szN z) ⟨[], 0, 0⟩ ∧ Kp none' w w' := by
  have HSZ : Hid (min (max z 0) 64 = (szN z : Int)) := by show _ = _; unfold szN; omega
  go_enter Tryz.func14, Tryz.ntmps14
  go_wp2
  go_ret
  rw [HSZ.out]
  have cell := new_cell w #[.int .i64 (szN z : Int), .slice none 0 0, .int .i64 0, .int .i64 0] 48
  exact ⟨w.heap.size, rfl, Nat.le_refl _, ⟨cell 0 _ rfl, ⟨none, 0, cell 1 _ rfl, ⟨none, 0, rfl, Nat.le_refl _, Nat.zero_le _, fun i hi => absurd hi (by simp)⟩⟩, cell 2 _ rfl, cell 3 _ rfl, new_frozen _ _ _⟩, Kp.alloc _ _ _⟩
/-- Where a page stands among those that are kept, as far as i of them were looked at. -/
def At (K : List Int) (z : Int) (i : Nat) (t : Int) : Prop := (z ∉ K.take i ∧ t = -1) ∨ ∃ p q, K = p ++ z :: q ∧ p.length < i ∧ t = (p.length : Int)
theorem At.step {K : List Int} {z : Int} {i : Nat} {t : Int} (hn : K.Nodup) (hi : i < K.length) (h : At K z i t) : (K[i] = z → At K z (i + 1) (i : Int)) ∧ (K[i] ≠ z → At K z (i + 1) t) := by
  have e : K = K.take i ++ K[i] :: K.drop (i + 1) := by rw [← List.drop_eq_getElem_cons hi, List.take_append_drop]
  have hl : (K.take i).length = i := by rw [List.length_take]; omega
  constructor
  · intro hz
    exact .inr ⟨K.take i, K.drop (i + 1), by rw [← hz]; exact e, by omega, by rw [hl]⟩
  · intro hz
    rcases h with ⟨h1, h2⟩ | ⟨p, q, h1, h2, h3⟩
    · refine .inl ⟨?_, h2⟩
      rw [List.take_succ_eq_append_getElem hi, List.mem_append]
      rintro (h | h)
      · exact h1 h
      · exact hz (List.mem_singleton.1 h).symm
    · exact .inr ⟨p, q, h1, by omega, h3⟩
set_option maxRecDepth 100000 in
set_option maxHeartbeats 3200000 in
theorem cuse_miss {w : World} {r : Nat} {G : Nat → Prop} {sz : Nat} {s : St} (z : Int) (H : Rf w r G sz s) (hn : s.K.Nodup) (hl : s.K.length ≤ sz) (hsz : sz ≤ 64) (hh : s.h + s.m ≤ 1000000000) (hz : z ∉ s.K) :
    Calls Tryz.prog 15 #[.pointer (some ⟨r, 0, none⟩), .int .i64 z] w fun e w' => e = .returned (.tuple #[]) ∧ Rf w' r (fun k => G k ∨ w.heap.size ≤ k) sz ⟨use sz s.K z, s.h, s.m + 1⟩ ∧ Kp (only r) w w' := by
  obtain ⟨a, c, c1, hk⟩ := H.c1
  obtain ⟨K, h, m⟩ := s
  dsimp only at *
  have c0 := H.c0
  have c2 := H.c2
  have c3 := H.c3
  have f1 := H.fr 1
  have f2 := H.fr 2
  have f3 := H.fr 3
  dsimp only at c2 c3
  have HH := hide H
  have hK := hide hk
  obtain ⟨len, HLEN⟩ : ∃ len, Hid (K.length = len) := ⟨_, rfl⟩
  rw [HLEN.out] at c1 hK hl
  obtain ⟨a', c', he, hcap, hcm, hcells⟩ := hk
  cases he
  rw [HLEN.out] at hcap
  have HC := hide hcells
  clear H hcells
  go_enter Tryz.func15, Tryz.ntmps15
  go_wp2
  go_loopw [4, 5] (fun t u wr => w = wr ∧ ∃ (i : Nat) (x : Int), i ≤ len ∧ u = .int .i64 i ∧ t = .int .i64 x ∧ Hid (At K z i x)) (fun t u _ => len - (intOf u).toNat)
  case atStart => exact ⟨rfl, 0, -1, Nat.zero_le _, rfl, rfl, .inl ⟨by simp, rfl⟩⟩
  case round =>
    obtain ⟨rfl, i, x, hi, rfl, rfl, hA⟩ := hrel
    by_cases hlt : i < len
    · have hii : (i : Int) < (len : Int) := by omega
      have hiK : i < K.length := by rw [HLEN.out]; exact hlt
      obtain ⟨b, off, rfl, _, _, hci⟩ := HC.out i hiK
      have hst := At.step hn hiK hA.out
      obtain ⟨y, HY⟩ : ∃ y, Hid (K[i] = y) := ⟨_, hide rfl⟩
      rw [HY.out] at hci hst
      by_cases hyz : y = z
      · have h5 := hide (hst.1 hyz)
        have hyb : (y == z) = true := by simp [hyz]
        clear hst hA hyz
        go_wp2
        go_roundw
        case rel => exact ⟨by first | trivial | rfl, i + 1, (i : Int), by omega, by go_num, rfl, h5⟩
        case measure => simp [intOf]; omega
      · have h5 := hide (hst.2 hyz)
        have hyb : (y == z) = false := by simp [hyz]
        clear hst hA hyz
        go_wp2
        go_roundw
        case rel => exact ⟨by first | trivial | rfl, i + 1, x, by omega, by go_num, rfl, h5⟩
        case measure => simp [intOf]; omega
    · have hil : len = i := by omega
      subst hil
      rcases hA.out with ⟨h1, h2⟩ | ⟨p, q, h1, h2, h3⟩
      · subst h2
        have htk : K.take len = K := by rw [List.take_of_length_le (by rw [HLEN.out]; exact Nat.le_refl _)]
        rw [htk] at h1
        have hw : wrap64 ((m : Int) + 1) = (m : Int) + 1 := by unfold wrap64; omega
        have p1 := Put.set w r 3 (.int .i64 ((m : Int) + 1)) _ c3
        obtain ⟨Wa, HA⟩ : ∃ Wa, Hid (w.setCell ⟨r, 3, none⟩ (.int .i64 ((m : Int) + 1)) = Wa) := ⟨_, rfl⟩
        rw [HA.out] at p1
        have e0 : Wa.cell? ⟨r, 0, none⟩ = some (.int .i64 (sz : Int)) := by rw [p1.old _ _ (.inr (by omega))]; exact c0
        have e1 : Wa.cell? ⟨r, 1, none⟩ = some (.slice a len c) := by rw [p1.old _ _ (.inr (by omega))]; exact c1
        have e2 : Wa.cell? ⟨r, 2, none⟩ = some (.int .i64 (h : Int)) := by rw [p1.old _ _ (.inr (by omega))]; exact c2
        have e3 : Wa.cell? ⟨r, 3, none⟩ = some (.int .i64 ((m : Int) + 1)) := p1.same
        have ef : ∀ j, Wa.frozen? ⟨r, j, none⟩ = false := fun j => by rw [p1.fr]; exact HH.out.fr j
        have hk1 := hK.out.kept p1.kp (fun k hk e => hk.2 e)
        have KA := p1.kp
        obtain ⟨m1, HM1⟩ : ∃ m1 : Nat, Hid (m + 1 = m1) := ⟨_, rfl⟩
        rw [show ((m : Int) + 1) = (m1 : Int) by rw [← HM1.out]; rfl] at e3
        obtain ⟨h1', HH1⟩ : ∃ h1' : Nat, Hid (h = h1') := ⟨_, rfl⟩
        rw [HH1.out] at e2
        obtain ⟨m1', HMM⟩ : ∃ m1' : Nat, Hid (m1 = m1') := ⟨_, rfl⟩
        rw [HMM.out] at e3
        obtain ⟨len1, HLL⟩ : ∃ len1, Hid (len = len1) := ⟨_, rfl⟩
        rw [HLL.out] at e1 hk1
        obtain ⟨K1, HKK⟩ : ∃ K1, Hid (K = K1) := ⟨_, rfl⟩
        rw [HKK.out] at hk1
        have HL1 : Hid (K1.length = len1) := by show _ = _; rw [← HKK.out, ← HLL.out]; exact HLEN.out
        have hl1 : len1 ≤ 64 := by have := HLL.out; omega
        obtain ⟨a1, HA1⟩ : ∃ a1, Hid (a = a1) := ⟨_, rfl⟩
        obtain ⟨c1', HC1⟩ : ∃ c1', Hid (c = c1') := ⟨_, rfl⟩
        rw [HA1.out, HC1.out] at e1 hk1
        go_upto_region 10 with fail
        rw [HA.out]
        have HEND : Hid ((⟨([z] ++ K1).take sz, h1', m1'⟩ : St) = ⟨use sz K z, h, m + 1⟩) := by
          show _ = _
          rw [← HKK.out, ← HH1.out, ← HMM.out, ← HM1.out]
          unfold use
          rw [if_neg h1]
          rfl
        obtain ⟨B1, HB1⟩ : ∃ B1, Hid (Wa.heap.size = B1) := ⟨_, rfl⟩
        have k2 := Kp.alloc none' Wa (.cells #[.int .i64 z] 3)
        have s2 : (Wa.alloc (.cells #[.int .i64 z] 3)).heap.size = B1 + 1 := by rw [← HB1.out]; simp
        have hOz : Ow (Value.int .i64) 3 (Wa.alloc (.cells #[.int .i64 z] 3)) B1 (.slice (some ⟨B1, 0, none⟩) 1 1) [z] := ⟨by simp, .inr ⟨B1, 1, #[.int .i64 z], rfl, Nat.le_refl _, by rw [← HB1.out]; exact heap_alloc_new Wa _, Nat.le_refl _, by unfold maxLen; omega, by simp, by simp⟩⟩
        have hk2 := hk1.kept k2 (fun _ _ h => h)
        have g1 := k2.cell e1 (fun h => h)
        have hrB : r < B1 := by rw [← HB1.out]; exact lt_of_cell e1
        obtain ⟨W2, H2⟩ : ∃ W2, Hid (Wa.alloc (.cells #[.int .i64 z] 3) = W2) := ⟨_, rfl⟩
        rw [H2.out] at k2 s2 hOz hk2 g1
        obtain ⟨v3, w3, hap, hO3, hg3, hv3⟩ := app_ints W2 B1 (.slice (some ⟨B1, 0, none⟩) 1 1) [z] (.slice a1 len1 c1') K1 hOz hk2.src (by omega) (by have := HL1.out; simp only [List.length_cons, List.length_nil]; omega)
        have hk3 : Kp (fun k => k = B1) W2 w3 := Kp.ofGrown hg3 (fun k he _ => by cases he; rfl)
        have hOp := hO3.kps
        obtain ⟨a3, c3', rfl, hcap3, hcm3, hcl3⟩ := hOp
        obtain ⟨b3, o3, rfl, _⟩ := hcl3 0 (by simp)
        clear hcl3
        rw [show ([z] ++ K1).length = len1 + 1 by have := HL1.out; simp only [List.length_append, List.length_cons, List.length_nil]; omega] at hO3 hap hcap3 hv3
        have q1 := hk3.cell g1 (by omega)
        have qf : w3.frozen? ⟨r, 1, none⟩ = false := by rw [hk3.frozen (by omega) (by omega), k2.frozen (by rw [HB1.out]; exact hrB) (fun h => h)]; exact ef 1
        have p4 := Put.set w3 r 1 (.slice (some ⟨b3, o3, none⟩) (len1 + 1) c3') _ q1
        obtain ⟨W4, H4⟩ : ∃ W4, Hid (w3.setCell ⟨r, 1, none⟩ (.slice (some ⟨b3, o3, none⟩) (len1 + 1) c3') = W4) := ⟨_, rfl⟩
        rw [H4.out] at p4
        have K3 : Kp (fun k => k = B1) Wa w3 := (k2.mono (fun _ _ h => h.elim)).then hk3
        have x0 : W4.cell? ⟨r, 0, none⟩ = some (.int .i64 (sz : Int)) := by rw [p4.old _ _ (.inr (by omega))]; exact K3.cell e0 (by omega)
        have x1 := p4.same
        have x2 : W4.cell? ⟨r, 2, none⟩ = some (.int .i64 (h1' : Int)) := by rw [p4.old _ _ (.inr (by omega))]; exact K3.cell e2 (by omega)
        have x3 : W4.cell? ⟨r, 3, none⟩ = some (.int .i64 (m1' : Int)) := by rw [p4.old _ _ (.inr (by omega))]; exact K3.cell e3 (by omega)
        have xf : ∀ j, W4.frozen? ⟨r, j, none⟩ = false := fun j => by rw [p4.fr, K3.frozen (by rw [HB1.out]; exact hrB) (by omega)]; exact ef j
        have hk4 : Kps (fun k => B1 ≤ k) W4 (.slice (some ⟨b3, o3, none⟩) (len1 + 1) c3') ([z] ++ K1) := hO3.kps.kept p4.kp (fun k hk e => by have e' : k = r := e; omega)
        have K4 : Kp (only r) w W4 := (KA.trans K3 (fun _ _ h => h) (fun k hk e => absurd hk (by have := KA.size; have := HB1.out; omega))).then p4.kp
        have hwB : w.heap.size ≤ B1 := by rw [← HB1.out]; exact KA.size
        have xf1 := xf 1
        clear hO3 hk1 hk2 hOz hg3 hv3 KA K3 k2 hk3 e2 e3
        rw [← H2.out, ← HB1.out] at hap
        rw [← H2.out] at g1
        go_upto_region 11 with (first | (at_builtin; refine wpList_app_at rfl (.tmp 61) (.tmp 65) 46 46 rfl _ _ rfl rfl hap ?_) | fail)
        rw [H4.out]
        have y0 : W4.drew.cell? ⟨r, 0, none⟩ = some (.int .i64 (sz : Int)) := x0
        by_cases hgt : sz < len1 + 1
        · have hgi : (sz : Int) < ((len1 + 1 : Nat) : Int) := by omega
          have hgi2 : (sz : Int) < (len1 : Int) + 1 := by omega
          have hsc : sz ≤ c3' := by omega
          have hks := hk4.take sz (by have := HL1.out; simp only [List.length_append, List.length_cons, List.length_nil]; omega)
          have y1 : W4.drew.cell? ⟨r, 1, none⟩ = some (.slice (some ⟨b3, o3, none⟩) (len1 + 1) c3') := x1
          have yf : W4.drew.frozen? ⟨r, 1, none⟩ = false := xf1
          have p5 := Put.set W4.drew r 1 (.slice (some ⟨b3, o3, none⟩) sz c3') _ y1
          have HFIN : Hid (∀ W, Put W4 W r 1 (.slice (some ⟨b3, o3, none⟩) sz c3') → Rf W r (fun k => G k ∨ w.heap.size ≤ k) sz ⟨([z] ++ K1).take sz, h1', m1'⟩ ∧ Kp (only r) w W) := fun W pw => by
            have hlt : (([z] ++ K1).take sz).length = sz := by rw [List.length_take]; have := HL1.out; simp only [List.length_append, List.length_cons, List.length_nil]; omega
            refine ⟨⟨by rw [pw.old _ _ (.inr (by omega))]; exact x0, ⟨some ⟨b3, o3, none⟩, c3', by dsimp only; rw [hlt]; exact pw.same, ?_⟩, by rw [pw.old _ _ (.inr (by omega))]; exact x2, by rw [pw.old _ _ (.inr (by omega))]; exact x3, fun j => by rw [pw.fr]; exact xf j⟩, K4.then pw.kp⟩
            dsimp only
            rw [hlt]
            exact (hks.kept pw.kp (fun k hk e => by have e' : k = r := e; omega)).mono (fun k _ hk => ⟨.inr (by omega), by omega⟩)
          clear hks K4 xf hk4 p4 x2 x3
          go_region
          all_goals go_wp2
          all_goals go_region
          all_goals go_wp2
          all_goals first | go_end0 | ((try simp only [Exit.inBlock, Exit.then]); refine bodyPost_ret (results_none rfl _ _ _) rfl ?_)
          all_goals (
            have hfin := HFIN.out _ ((Put.set W4 r 1 (.slice (some ⟨b3, o3, none⟩) sz c3') _ x1).drew.drew)
            rw [HEND.out] at hfin
            exact ⟨rfl, hfin⟩)
        · have hgi : ¬ (sz : Int) < ((len1 + 1 : Nat) : Int) := by omega
          have hgi2 : ¬ (sz : Int) < (len1 : Int) + 1 := by omega
          have HFIN : Hid (Rf W4.drew r (fun k => G k ∨ w.heap.size ≤ k) sz ⟨([z] ++ K1), h1', m1'⟩ ∧ Kp (only r) w W4.drew) := by
            have hlt : ([z] ++ K1).length = len1 + 1 := by have := HL1.out; simp only [List.length_append, List.length_cons, List.length_nil]; omega
            refine ⟨⟨x0, ⟨some ⟨b3, o3, none⟩, c3', by dsimp only; rw [hlt]; exact x1, ?_⟩, x2, x3, xf⟩, K4.thenN (Kp.drew _ _)⟩
            dsimp only
            rw [hlt]
            exact (hk4.kept (Kp.drew none' W4) (fun _ _ h => h)).mono (fun k _ hk => ⟨.inr (by omega), by omega⟩)
          clear K4 xf hk4 p4 x2 x3
          go_region
          all_goals go_wp2
          all_goals first | go_end0 | ((try simp only [Exit.inBlock, Exit.then]); refine bodyPost_ret (results_none rfl _ _ _) rfl ?_)
          all_goals (
            have hfin := HFIN.out
            rw [show [z] ++ K1 = ([z] ++ K1).take sz by rw [List.take_of_length_le (by have := HL1.out; simp only [List.length_append, List.length_cons, List.length_nil]; omega)], HEND.out] at hfin
            exact ⟨rfl, hfin⟩)
      · exact absurd (by rw [h1]; simp) hz

end Go.Proofs.YtcfhgfelmofgjaaGreat
