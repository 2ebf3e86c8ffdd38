/- Contracts, over the turned program: code.Write makes a program's bytes, or answers why it has none, as the document says. Conditions: those that each theorem states. -/
import Derived.Test.YtpoahegccjgnjaaGreatDoorIMay
import Derived.Deep.CutRange
namespace Go.Proofs.YtpoahegccjgnjaaGreatDoor
open Go.RowKit
set_option linter.unusedVariables false

set_option maxRecDepth 100000 in
set_option maxHeartbeats 400000 in
theorem iwriteValue_any (v : Value) (l : List UInt8) (x : V) (base : Nat) (w : World) (hx : x.wf) (hk : okV x = true) (hown : Own 5 w base v l) (hb : base ≤ w.heap.size) (hl : l.length ≤ 1099511627776) :
    Calls Tryz.prog 112 #[v, x.val] w fun e w' => ∃ v', e = .returned v' ∧ Own 5 w' base v' (l ++ encC x) ∧ Fr w v w' v' := by
  obtain ⟨k, n, s⟩ := x
  obtain ⟨n0, n1, s0⟩ := hx
  dsimp only at n0 n1 s0
  unfold V.val
  dsimp only
  have Hl0 : Hid (l.length ≤ 140737488355300) := by show _ ≤ _; omega
  rcases (okV_iff _).1 hk with ⟨h1, h2⟩ | ⟨h1, h2⟩
  · dsimp only at h1 h2
    subst h1
    have HU := hide (n2u_wrap n)
    have HU2 := hide (n2u_lt n)
    have Hl1 : Hid ((l ++ [UInt8.ofNat 1]).length ≤ 140737488355300) := by show _ ≤ _; simp; omega
    have hV := Vb.new w ⟨1, n, s⟩
    have hvne : ∀ k, v.ownBlock = some k → k ≠ w.heap.size := fun k hk => by have := (hown.lt k hk).2; omega
    have hE : encC ⟨1, n, s⟩ = [1] ++ be (n2u n) 8 := rfl
    rw [hE]
    clear hl n0 n1 hk hE
    go_enter Tryz.func112, Tryz.ntmps112
    go_wp2_with fail
    refine (num1 v l 1 base _ (by omega) (hown.alloc _) (by simp; omega) Hl0.out).mono ?_
    rintro e w1 ⟨v1, rfl, ho1, hf1⟩
    have hV1 := hV.kept hf1.1 (by intro h; exact hvne _ h.symm rfl)
    have c0 := hV1.c0
    have c1 := hV1.c1
    dsimp only at c0 c1
    clear hV hV1
    go_wp2_with fail
    rw [HU.out]
    refine (num_any v1 _ (n2u n) 8 base w1 HU2.out ho1 (by have := hf1.1.size; simp at this; omega) Hl1.out).mono ?_
    rintro e w2 ⟨v2, rfl, ho2, hf2⟩
    go_wp2
    go_ret
    refine ⟨_, rfl, ?_, ((Fr.refl w v).alloc _).trans (hf1.trans hf2)⟩
    rw [wid8] at ho2
    simpa using ho2
  · dsimp only at h1 h2
    subst h1 h2
    have HL : Hid ((l ++ [UInt8.ofNat 2]).length ≤ 140737488355072) := by show _ ≤ _; simp; omega
    have hV := Vb.new w ⟨2, 0, s⟩
    have hvne : ∀ k, v.ownBlock = some k → k ≠ w.heap.size := fun k hk => by have := (hown.lt k hk).2; omega
    have hE : encC ⟨2, 0, s⟩ = [2] ++ strB s.data.toList := rfl
    rw [hE]
    clear hl n0 n1 hk hE
    go_enter Tryz.func112, Tryz.ntmps112
    go_wp2_with fail
    refine (num1 v l 2 base _ (by omega) (hown.alloc _) (by simp; omega) Hl0.out).mono ?_
    rintro e w1 ⟨v1, rfl, ho1, hf1⟩
    have hV1 := hV.kept hf1.1 (by intro h; exact hvne _ h.symm rfl)
    have c0 := hV1.c0
    have c1 := hV1.c2
    dsimp only at c0 c1
    clear hV hV1
    go_wp2_with fail
    refine (str_any v1 _ s base w1 s0 ho1 (by have := hf1.1.size; simp at this; omega) HL.out).mono ?_
    rintro e w2 ⟨v2, rfl, ho2, hf2⟩
    go_wp2
    go_ret
    refine ⟨_, rfl, ?_, ((Fr.refl w v).alloc _).trans (hf1.trans hf2)⟩
    simpa using ho2

/-- The first m of n operands, as bytes. -/
theorem opsB_step (x : In) (n k : Nat) (hk : k < 3) (h : k < n) : opsB (min (k + 1) n) x = opsB (min k n) x ++ [byt (x.fl k)] := by
  rw [show min (k + 1) n = k + 1 by omega, show min k n = k by omega]
  rcases (by omega : k = 0 ∨ k = 1 ∨ k = 2) with rfl | rfl | rfl <;> rfl
theorem opsB_stay (x : In) (n k : Nat) (h : n ≤ k) : opsB (min (k + 1) n) x = opsB (min k n) x := by
  rw [show min (k + 1) n = n by omega, show min k n = n by omega]
theorem fit_fl (x : In) (hk : okI x = true) (k : Nat) : byteOk (x.fl k) = true := by
  obtain ⟨_, h2, h3, h4, _⟩ := okI_parts hk
  unfold In.fl
  split
  · exact (fit_lt h2).1
  · split
    · exact (fit_lt h3).1
    · exact (fit_lt h4).1
theorem byte_nat (o : Int) (h : byteOk o = true) : IntKind.u64.wrap o = ((o.toNat : Nat) : Int) ∧ o.toNat < 256 := by
  have h := of_decide_eq_true h
  rw [IntKind.wrap_u64]
  omega
theorem own_at {e : TypeId} {w : World} {base : Nat} {v : Value} {l m : List UInt8} (h : Own e w base v l) (hm : l = m) : Own e w base v m := hm ▸ h

set_option maxRecDepth 100000 in
set_option maxHeartbeats 1000000 in
theorem writeInst_any (v : Value) (l : List UInt8) (x : In) (base : Nat) (w : World) (hx : x.wf) (hk : okI x = true) (hG : Glob w) (hown : Own 5 w base v l) (hb0 : 0 < base) (hb : base ≤ w.heap.size) (hl : l.length ≤ 1099511000000) :
    Calls Tryz.prog 101 #[v, x.val] w fun e w' => ∃ v', e = .returned v' ∧ Own 5 w' base v' (l ++ encI x) ∧ Fr w v w' v' := by
  have hb1 := Ib.new w x
  have hga := World.grownBy_alloc w (.cells #[.int .i64 x.op, .int .i64 x.a, .int .i64 x.b, .int .i64 x.c, .int .i64 x.v.k, .int .i64 x.v.n, .string x.v.s] 44) none
  have hvne : ∀ k, v.ownBlock = some k → k ≠ w.heap.size := fun k hk => by have := (hown.lt k hk).2; omega
  obtain ⟨o1, o2, o3, o4, o5⟩ := okI_parts hk
  obtain ⟨nn, HN⟩ : ∃ nn : Nat, Hid (nOps x.op = nn) := ⟨_, rfl⟩
  have hn3 : nn ≤ 3 := by have := HN.out; have := nOps_le x.op; omega
  have Hl0 : Hid (l.length ≤ 140737488355300) := by show _ ≤ _; omega
  have Hll : Hid (l.length ≤ 1099511000000) := hl
  have Hop := hide (byte_nat x.op (opOk_byte o1))
  have Hf := hide (fields_any x)
  have Hfl := hide (fit_fl x hk)
  have HE : Hid (encI x = [byt x.op] ++ (opsB nn x ++ (if x.op = 1 then encC x.v else []))) := by show _ = _; rw [← HN.out]; rfl
  have Ho5 := hide o5
  have Hran := hide (of_decide_eq_true o1)
  have hv := hx.1
  unfold In.val
  go_enter Tryz.func101, Tryz.ntmps101
  go_wp2_with fail
  rw [Hop.out.1]
  refine (num1 v l x.op.toNat base _ Hop.out.2 (hown.alloc _) (by simp; omega) Hl0.out).mono ?_
  rintro e w1 ⟨v1, rfl, hO1, hf1⟩
  have hb2 := hb1.kept hf1.1 (by intro h; exact hvne _ h.symm rfl)
  obtain ⟨c0, c1, c2, c3, c4, c5, c6⟩ := hb2.cs
  clear hb1
  go_wp2_with fail
  refine (Hf.out _).mono ?_
  rintro e w2 ⟨rfl, hg2⟩
  have hO2 : Own 5 w2 base v1 (l ++ [byt x.op]) := hO1.kept hg2 (by cases v1.ownBlock <;> simp)
  have hf2 : Fr (w.alloc (.cells #[.int .i64 x.op, .int .i64 x.a, .int .i64 x.b, .int .i64 x.c, .int .i64 x.v.k, .int .i64 x.v.n, .string x.v.s] 44)) v w2 v1 := ⟨grown_up hf1.1 hg2, hf1.2⟩
  have hb3 := hb2.kept hg2 (by simp)
  have hn0 : ∀ (u : Value) (W : World) (q : List UInt8), Own 5 W base u q → u.ownBlock ≠ some 0 := fun u W q h h0 => by have := (h.lt 0 h0).1; omega
  have hne : ∀ (W : World) (u : Value), Fr (w.alloc (.cells #[.int .i64 x.op, .int .i64 x.a, .int .i64 x.b, .int .i64 x.c, .int .i64 x.v.k, .int .i64 x.v.n, .string x.v.s] 44)) v W u → u.ownBlock ≠ some w.heap.size := by
    intro W u h hu
    rcases h.2 with h2 | ⟨g, h2, h3⟩
    · rw [h2] at hu; exact hvne _ hu rfl
    · rw [h2] at hu; have := Option.some.inj hu; simp at h3; omega
  have hG2 : Glob w2 := ((hG.keptN hga).kept hf1.1 (hn0 v w l hown)).keptN hg2
  have HA : Hid (Fr w v (w.alloc (.cells #[.int .i64 x.op, .int .i64 x.a, .int .i64 x.b, .int .i64 x.c, .int .i64 x.v.k, .int .i64 x.v.n, .string x.v.s] 44)) v) := (Fr.refl w v).alloc _
  clear hown hO1 hf1 hb2 hg2 hG c0 c1 c2 c3 c4 c5 c6 hga
  obtain ⟨wA, HWA⟩ : ∃ W, Hid (w.alloc (.cells #[.int .i64 x.op, .int .i64 x.a, .int .i64 x.b, .int .i64 x.c, .int .i64 x.v.k, .int .i64 x.v.n, .string x.v.s] 44) = W) := ⟨_, rfl⟩
  rw [HWA.out] at hf2 hne HA
  have hbA : base ≤ wA.heap.size := by rw [← HWA.out]; simp; omega
  clear HWA
  go_wp2_with fail
  go_loopw [0, 14] (fun b i wr => ∃ k : Nat, k ≤ 3 ∧ i = .int .i64 k ∧ Own 5 wr base b (l ++ [byt x.op] ++ opsB (min k nn) x) ∧ Fr wA v wr b ∧ Ib wr w.heap.size x ∧ Glob wr) (fun _ i _ => 3 - (intOf i).toNat)
  case atStart => exact ⟨0, by omega, rfl, by simpa [opsB] using hO2, hf2, hb3, hG2⟩
  case round =>
    clear hO2 hf2 hb3 hG2
    obtain ⟨k, hk3, rfl, hO, hf, hb3, hG⟩ := hrel
    obtain ⟨c0, c1, c2, c3, c4, c5, c6⟩ := hb3.cs
    have hbw : base ≤ wr.heap.size := Nat.le_trans hbA hf.1.size
    by_cases hlt : k < 3
    · have hix := run_idx3 x k hlt wr
      have hgl := hG.at x.op o1
      rw [HN.out] at hgl
      have hr0 : 0 ≤ x.op := by have := Hran.out; omega
      have hr1 : x.op < 20 := by have := Hran.out; omega
      have Hby := hide (byte_nat (x.fl k) (Hfl.out k))
      have Hs1 := hide (opsB_step x nn k hlt)
      have Hs2 := hide (opsB_stay x nn k)
      have Hlen : Hid ((l ++ [byt x.op] ++ opsB (min k nn) x).length ≤ 140737488355300) := by
        have h1 := Hll.out
        have h2 := opsB_len (min k nn) x (by omega)
        show _ ≤ _
        simp only [List.length_append, List.length_singleton]
        omega
      have hub := hn0 _ _ _ hO
      by_cases a1 : (k : Int) < (nn : Int)
      · go_wp2_with (go_at_call 91; rw [Hby.out.1]; refine (num1 _ _ (x.fl k).toNat base _ Hby.out.2 hO hbw Hlen.out).mono ?_; rintro e w3 ⟨v3, rfl, hO3, hf3⟩)
        go_roundw
        case rel =>
          refine ⟨k + 1, by omega, by go_num, ?_, hf.trans hf3, hb3.kept hf3.1 (fun h => hne _ _ hf h.symm), hG.kept hf3.1 hub⟩
          rw [Hs1.out (by omega), ← List.append_assoc]
          exact hO3
        case measure => simp [intOf]; omega
      · go_wp2_with fail
        go_roundw
        case rel =>
          refine ⟨k + 1, by omega, by go_num, ?_, hf, hb3, hG⟩
          rw [Hs2.out (by omega)]
          exact hO
        case measure => simp [intOf]; omega
    · have hO3 : Own 5 wr base u0 (l ++ ([byt x.op] ++ opsB nn x)) := own_at hO (by rw [show min k nn = nn by omega, List.append_assoc])
      by_cases h1 : x.op = 1
      · have h1' : (x.op != 1) = false := by simp [h1]
        have Hok : Hid (okV x.v = true) := by
          have := Ho5.out
          rw [if_pos h1] at this
          unfold okC at this
          rw [Bool.and_eq_true] at this
          exact this.1
        have He : Hid ((if x.op = 1 then encC x.v else []) = encC x.v) := if_pos h1
        have Hlen : Hid ((l ++ ([byt x.op] ++ opsB nn x)).length ≤ 1099511627776) := by
          have h1 := Hll.out
          have h2 := opsB_len nn x hn3
          show _ ≤ _
          simp only [List.length_append, List.length_singleton]
          omega
        clear h1
        go_wp2_with (go_at_call 112; refine (iwriteValue_any _ _ x.v base _ hv Hok.out hO3 hbw Hlen.out).mono ?_; rintro e w3 ⟨v3, rfl, hO4, hf4⟩)
        go_ret
        refine ⟨_, rfl, own_at hO4 (by rw [HE.out, He.out]; simp), (HA.out.trans hf).trans hf4⟩
      · have h1' : (x.op != 1) = true := by simp [h1]
        have He : Hid ((if x.op = 1 then encC x.v else []) = []) := if_neg h1
        clear h1
        go_wp2
        go_ret
        refine ⟨_, rfl, own_at hO3 (by rw [HE.out, He.out]; simp), HA.out.trans hf⟩

theorem encP_take (l : List In) (j : Nat) (h : j < l.length) : encP (l.take (j + 1)) = encP (l.take j) ++ encI l[j] := by
  rw [List.take_succ_eq_append_getElem h, encP_snoc]

set_option maxRecDepth 100000 in
set_option maxHeartbeats 1000000 in
theorem iwrite_any (v : Value) (l : List In) (w : World) (hT : Ins w v l) (hwf : ∀ x ∈ l, x.wf) (hG : Glob w) :
    Calls Tryz.prog 87 #[v] w fun e w' => e = .returned (.tuple #[.string ⟨(wiB l).toArray⟩, .int .i64 (wiE l)]) ∧ w.grownBy w' none := by
  obtain ⟨a, c, rfl, hc, hm, hL⟩ := hT
  have hlm : l.length ≤ maxLen := Nat.le_trans hc hm
  unfold maxLen at hlm
  by_cases h64 : (64 : Int) < (l.length : Int)
  · have E1 : Hid (wiB l = []) := by show _ = _; unfold wiB wiOk; rw [decide_eq_false (by omega)]; rfl
    have E2 : Hid (wiE l = 3) := by show _ = _; unfold wiE; rw [if_pos (by omega)]
    clear hL hm
    go_enter Tryz.func87, Tryz.ntmps87
    go_wp2
    go_ret2
    rw [E1.out, E2.out]
    exact ⟨rfl, World.grownBy.refl _ _⟩
  · have HL : Hid (∀ i (h : i < l.length), ∃ b off, a = some ⟨b, off, none⟩ ∧ b < w.heap.size ∧ ∀ j u, (In.cells l[i])[j]? = some u → w.cell? ⟨b, off + i * 7 + j, none⟩ = some u) := hL
    have Hm : Hid (c ≤ maxLen) := hm
    have h0 := hG.1
    clear hL hm
    go_enter Tryz.func87, Tryz.ntmps87
    go_wp2_with fail
    go_loopw [4, 12] (fun b i wr => ∃ j : Nat, j ≤ l.length ∧ i = .int .i64 j ∧ Own 5 wr w.heap.size b (encP (l.take j)) ∧ Hid ((l.take j).all okI = true) ∧ w.grownBy wr none) (fun _ i _ => l.length - (intOf i).toNat)
    case atStart => exact ⟨0, Nat.zero_le _, rfl, by simpa [encP] using Own.nil _ _ _, by show _ = _; simp, World.grownBy.refl _ _⟩
    case round =>
      obtain ⟨j, hj, rfl, ho, Hok, hg⟩ := hrel
      by_cases hlt : j < l.length
      · obtain ⟨b, off, rfl, hb, hcs⟩ := HL.out j hlt
        have hs := hg.block b hb (by simp)
        have hcs' : ∀ q u, (In.cells l[j])[q]? = some u → wr.cell? ⟨b, off + j * 7 + q, none⟩ = some u := fun q u hu => by rw [cell_same hs]; exact hcs q u hu
        have hwx := hwf l[j] (List.getElem_mem hlt)
        have Hle : Hid ((encP (l.take j)).length ≤ 1099511000000) := by
          have h1 := encP_len (l.take j)
          rw [List.length_take] at h1
          show _ ≤ _
          omega
        have Htk : Hid (encP (l.take (j + 1)) = encP (l.take j) ++ encI l[j]) := encP_take l j hlt
        have Hall : Hid ((l.take (j + 1)).all okI = okI l[j]) := by
          show _ = _
          rw [List.take_succ_eq_append_getElem hlt, List.all_append, Hok.out]
          simp
        have Hbad : Hid (okI l[j] = false → l.all okI = false) := by
          intro h
          rw [List.all_eq_false]
          exact ⟨l[j], List.getElem_mem hlt, by simp [h]⟩
        generalize l[j] = x at *
        obtain ⟨c0, c1, c2, c3, c4, c5, c6⟩ := cells7 hcs'
        have hV := Ib.new wr x
        have hgw : w.heap.size ≤ wr.heap.size := hg.size
        have hga := World.grownBy_alloc wr (.cells #[.int .i64 x.op, .int .i64 x.a, .int .i64 x.b, .int .i64 x.c, .int .i64 x.v.k, .int .i64 x.v.n, .string x.v.s] 44) none
        have hGa := (hG.keptN hg).keptN hga
        clear hs hcs hcs'
        by_cases hx : okI x = true
        · go_wp2_with fail
          refine (imayBe_any x _ hwx hGa).mono ?_
          rintro e w1 ⟨rfl, hg1⟩
          have hV1 := hV.kept hg1 (by simp)
          have ho1 := (ho.alloc (.cells #[.int .i64 x.op, .int .i64 x.a, .int .i64 x.b, .int .i64 x.c, .int .i64 x.v.k, .int .i64 x.v.n, .string x.v.s] 44)).kept hg1 (by cases u4.ownBlock <;> simp)
          have hgg := grown_trans hga hg1 (.inl rfl)
          have hG1 := hGa.keptN hg1
          clear c0 c1 c2 c3 c4 c5 c6 hV ho hg1 hga hGa
          obtain ⟨c0, c1, c2, c3, c4, c5, c6⟩ := hV1.cs
          rw [hx]
          go_wp2_with fail
          refine (writeInst_any u4 _ x w.heap.size w1 hwx hx hG1 ho1 h0 (Nat.le_trans hgw hgg.size) Hle.out).mono ?_
          rintro e w2 ⟨v2, rfl, ho2, hf2⟩
          have hg2 : w.grownBy w2 none := grown_trans (grown_trans hg hgg (.inl rfl)) hf2.1 (by
            cases hu : u4.ownBlock with
            | none => exact .inl rfl
            | some q => exact .inr ⟨q, rfl, (ho1.lt q hu).1⟩)
          go_wp2_with fail
          go_roundw
          case rel => exact ⟨j + 1, by omega, by go_num, by rw [Htk.out]; exact ho2, by show _ = _; rw [Hall.out]; exact hx, hg2⟩
          case measure => simp [intOf]; omega
        · have hx' : okI x = false := by simpa using hx
          have E1 : Hid (wiB l = []) := by show _ = _; unfold wiB wiOk; rw [Hbad.out hx', Bool.and_false]; rfl
          have E2 : Hid (wiE l = 4) := by show _ = _; unfold wiE; rw [if_neg (by omega), Hbad.out hx']; rfl
          clear hx
          go_wp2_with fail
          refine (imayBe_any x _ hwx hGa).mono ?_
          rintro e w1 ⟨rfl, hg1⟩
          have hgg := grown_trans hga hg1 (.inl rfl)
          rw [hx']
          go_wp2
          go_ret2
          rw [E1.out, E2.out]
          exact ⟨rfl, grown_trans hg hgg (.inl rfl)⟩
      · have ej : l.take j = l := List.take_of_length_le (by omega)
        rw [ej] at ho Hok
        have hcv := run_convert_own wr 100 9 5 Tryz.underlying100 Tryz.underlying5 Tryz.underlying9 ho
        clear ho ej
        have E1 : Hid (wiB l = encP l) := by show _ = _; unfold wiB wiOk; rw [Hok.out, decide_eq_true (by omega)]; rfl
        have E2 : Hid (wiE l = 0) := by show _ = _; unfold wiE; rw [if_neg (by omega), Hok.out]; rfl
        go_wp2
        go_ret2
        rw [E1.out, E2.out]
        exact ⟨rfl, hg⟩

end Go.Proofs.YtpoahegccjgnjaaGreatDoor
