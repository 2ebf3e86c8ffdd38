/- Part of the proof: contracts over the turned program. -/
import Derived.Test.YtjojffepakclcaaGreatDoorX35
set_option linter.unusedVariables false
set_option maxHeartbeats 4000000
open Go.Proofs.Tryz
namespace Go.Proofs.YtjojffepakclcaaGreatDoor
open Go Go.RowKit
theorem KH(w:World)(l l':Bool)(p k d p' k' d':Value):Nb ((w.alloc (.cells #[.bool l,p,k,d] 73)).alloc (.cells #[.bool l',p',k',d'] 73)).drew w.heap.size l p k d/\Nb ((w.alloc (.cells #[.bool l,p,k,d] 73)).alloc (.cells #[.bool l',p',k',d'] 73)).drew (w.heap.size+1) l' p' k' d'/\Kp none' w ((w.alloc (.cells #[.bool l,p,k,d] 73)).alloc (.cells #[.bool l',p',k',d'] 73)).drew:=by
 refine⟨((Nb.new w l p k d).kept (Kp.alloc none' _ _) (fun h=>h)).kept (Kp.drew none' _) (fun h=>h),?_,((Kp.alloc _ _ _).thenN (Kp.alloc _ _ _)).thenN (Kp.drew _ _)⟩;have n3:=(Nb.new (w.alloc (.cells #[.bool l,p,k,d] 73)) l' p' k' d').kept (Kp.drew none' _) (fun h=>h);rw[show (w.alloc (.cells #[.bool l,p,k,d] 73)).heap.size=w.heap.size+1 by simp]at n3;exact n3
def CoupV (C : Cg) (kid bt : Nat) (n nab : Nd) (o' : Nat → Nat) (w' : World) (e : Ending) : Prop :=
  if C.coE (coZ kid bt nab) = 0 then
    (if (C.coN (coZ kid bt nab)).leaf = n.leaf then ∃ y : SpV, y.pg = nab.kd.getD bt 0 ∧ y.kid = 0 ∧ y.was = 0 ∧ WrIs w' o' y (y.pg, C.coJ kid bt n nab) ∧ e = .returned (.tuple #[.agg #[.int .i64 y.pg, .int .i64 (nab.kd.getD (bt + 1) 0), .int .i64 (bt : Int), .bool y.l, .slice y.a1 y.n1 y.c1, .slice y.a2 y.n2 y.c2, .slice y.a3 y.n3 y.c3], .bool true, .int .i64 0])
     else e = .returned (.tuple #[.agg #[.int .i64 0, .int .i64 0, .int .i64 0, .bool false, .slice none 0 0, .slice none 0 0, .slice none 0 0], .bool false, .int .i64 0]))
  else e = .returned (.tuple #[.agg #[.int .i64 0, .int .i64 0, .int .i64 0, .bool false, .slice none 0 0, .slice none 0 0, .slice none 0 0], .bool false, .int .i64 (C.coE (coZ kid bt nab))])
def FL(b r c mm:Nat)(o:Nat->Nat)(V:Nat->Prop)(C:Cg)(wv tv sv:Value)(xs:List SpV)(kid bt:Nat)(n nab:Nd)(w w':World)(e:Ending):Prop:=∃o':Nat->Nat,(∀k,k<w.heap.size->o' k=o k)/\Cm w' b r o' (C.co (coZ kid bt nab)) wv tv sv xs/\Wk w' r V c mm C.S/\Kp (only b) w w'/\CoupV C kid bt n nab o' w' e
set_option maxRecDepth 100000 in
theorem JJ (b r c mm g m cap i rb base : Nat) (o : Nat → Nat) (V : Nat → Prop) (C : Cg) (wv tv sv : Value) (xs xa : List SpV) (s x : SpV) (n nab : Nd) (kid bt : Nat) (w : World) (hC : Cm w b r o C wv tv sv xs) (hWk : Wk w r V c mm C.S) (hV : ∀ k, V k → o k = 5 ∧ k < w.heap.size) (hk : C.k ≤ 90000)
    (hN : Nv w.heap.size w s.node n) (hso : ∀ k, s.own k → k < w.heap.size ∧ (o k = 0 ∨ 6 ≤ o k)) (hA : AbS w o g m cap i rb base xa x nab) (hkid : x.kid = (kid : Int)) (hbt : bt < nab.ks.length) (hks : nab.kd.length = nab.ks.length + 1) (hn6 : nab.kd.length ≤ 100000) (hp : n.ps.length ≤ 1000000) (hkk : n.ks.length ≤ 1000000) (hd : n.kd.length ≤ 1000000) (hnn : (C.coN (coZ kid bt nab)).ps.length ≤ 1000000 ∧ (C.coN (coZ kid bt nab)).ks.length ≤ 1000000 ∧ (C.coN (coZ kid bt nab)).kd.length ≤ 1000000) :
    Calls prog 166 #[.pointer (some ⟨b, 0, none⟩), .agg #[.int .i64 s.pg, .bool s.l, .slice s.a1 s.n1 s.c1, .slice s.a2 s.n2 s.c2, .slice s.a3 s.n3 s.c3, .int .i64 s.kid, .int .i64 s.was], .pointer (some ⟨g, i * 7, none⟩), .int .i64 (bt : Int)] w fun e w' => FL b r c mm o V C wv tv sv xs kid bt n nab w w' e := by
  have hK1 : Kp none' w (w.alloc (.cells #[.int .i64 s.pg, .bool s.l, .slice s.a1 s.n1 s.c1, .slice s.a2 s.n2 s.c2, .slice s.a3 s.n3 s.c3, .int .i64 s.kid, .int .i64 s.was] 75)) := Kp.alloc _ _ _
  have hKA : Kp none' w ((w.alloc (.cells #[.int .i64 s.pg, .bool s.l, .slice s.a1 s.n1 s.c1, .slice s.a2 s.n2 s.c2, .slice s.a3 s.n3 s.c3, .int .i64 s.kid, .int .i64 s.was] 75)).alloc (.cells #[.int .i64 0, .int .i64 0, .int .i64 0, .bool false, .slice none 0 0, .slice none 0 0, .slice none 0 0] 224)) := hK1.thenN (Kp.alloc _ _ _)
  have cell := fun j u hj => (Kp.alloc none' _ (.cells #[.int .i64 0, .int .i64 0, .int .i64 0, .bool false, .slice none 0 0, .slice none 0 0, .slice none 0 0] 224)).cell (Am w #[.int .i64 s.pg, .bool s.l, .slice s.a1 s.n1 s.c1, .slice s.a2 s.n2 s.c2, .slice s.a3 s.n3 s.c3, .int .i64 s.kid, .int .i64 s.was] 75 j u hj) (fun h => h)
  have q1 := cell 1 _ rfl
  have q2 : ((w.alloc (.cells #[.int .i64 s.pg, .bool s.l, .slice s.a1 s.n1 s.c1, .slice s.a2 s.n2 s.c2, .slice s.a3 s.n3 s.c3, .int .i64 s.kid, .int .i64 s.was] 75)).alloc (.cells #[.int .i64 0, .int .i64 0, .int .i64 0, .bool false, .slice none 0 0, .slice none 0 0, .slice none 0 0] 224)).cell? ⟨w.heap.size, 1 + 1, none⟩ = _ := cell 2 _ rfl
  have q3 : ((w.alloc (.cells #[.int .i64 s.pg, .bool s.l, .slice s.a1 s.n1 s.c1, .slice s.a2 s.n2 s.c2, .slice s.a3 s.n3 s.c3, .int .i64 s.kid, .int .i64 s.was] 75)).alloc (.cells #[.int .i64 0, .int .i64 0, .int .i64 0, .bool false, .slice none 0 0, .slice none 0 0, .slice none 0 0] 224)).cell? ⟨w.heap.size, 1 + 2, none⟩ = _ := cell 3 _ rfl
  have q4 : ((w.alloc (.cells #[.int .i64 s.pg, .bool s.l, .slice s.a1 s.n1 s.c1, .slice s.a2 s.n2 s.c2, .slice s.a3 s.n3 s.c3, .int .i64 s.kid, .int .i64 s.was] 75)).alloc (.cells #[.int .i64 0, .int .i64 0, .int .i64 0, .bool false, .slice none 0 0, .slice none 0 0, .slice none 0 0] 224)).cell? ⟨w.heap.size, 1 + 3, none⟩ = _ := cell 4 _ rfl
  have hco := Co.new (w.alloc (.cells #[.int .i64 s.pg, .bool s.l, .slice s.a1 s.n1 s.c1, .slice s.a2 s.n2 s.c2, .slice s.a3 s.n3 s.c3, .int .i64 s.kid, .int .i64 s.was] 75)) (.int .i64 0) (.int .i64 0) (.int .i64 0) (.bool false) (.slice none 0 0) (.slice none 0 0) (.slice none 0 0)
  rw [show (w.alloc (.cells #[.int .i64 s.pg, .bool s.l, .slice s.a1 s.n1 s.c1, .slice s.a2 s.n2 s.c2, .slice s.a3 s.n3 s.c3, .int .i64 s.kid, .int .i64 s.was] 75)).heap.size = w.heap.size + 1 by simp] at hco
  have hold : ∀ k, k < w.heap.size → lab o w.heap.size 9 k = o k := fun k hk => Ad hk
  have HOG : Hid (lab o w.heap.size 9 w.heap.size = 9 ∧ lab o w.heap.size 9 (w.heap.size + 1) = 9) := ⟨Aq (Nat.le_refl _), Aq (by omega)⟩
  have HV1 : Hid (∀ k, V k → lab o w.heap.size 9 k = 5) := fun k e => by rw [hold k (hV k e).2]; exact (hV k e).1
  have HOLD := hide hold
  have HSO : Hid (∀ k, s.own k → lab o w.heap.size 9 k ≠ 1) := fun k e => by rw [hold k (hso k e).1]; have := (hso k e).2; omega
  have HC1 := hide (hC.kept (o' := lab o w.heap.size 9) hKA (fun _ _ _ h => h) hold)
  have HW1 := hide (hWk.keptN hKA)
  have hA1 := hA.kept (o' := lab o w.heap.size 9) hKA (fun _ _ _ h => h) hold
  have HN1 := hide (hN.keptO hKA (fun _ _ h => h))
  have HKA := hide hKA
  have HGW := hide hco.lt
  clear cell hN hC hWk hA hKA hK1 hV hso
  go_enter func166, ntmps166
  go_upto_region 1 with fail
  generalize (w.alloc (.cells #[.int .i64 s.pg, .bool s.l, .slice s.a1 s.n1 s.c1, .slice s.a2 s.n2 s.c2, .slice s.a3 s.n3 s.c3, .int .i64 s.kid, .int .i64 s.was] 75)).alloc (.cells #[.int .i64 0, .int .i64 0, .int .i64 0, .bool false, .slice none 0 0, .slice none 0 0, .slice none 0 0] 224) = w1 at *
  obtain ⟨gb, Hgb⟩ : ∃ q, Hid (w.heap.size = q) := ⟨_, rfl⟩
  obtain ⟨o1, Ho1⟩ : ∃ q, Hid (lab o w.heap.size 9 = q) := ⟨_, rfl⟩
  rw [Ho1.out] at HC1 HOG HV1 HOLD HSO hA1
  rw [Hgb.out] at q1 q2 q3 q4 hco HGW HOG ⊢
  clear hold
  obtain ⟨da, dc, ed, hdc⟩ := hA1.nd.d.open
  obtain ⟨gd, rfl, _, c0⟩ := hdc bt (by omega)
  obtain ⟨gd', e', _, c1⟩ := hdc (bt + 1) (by omega)
  have e'' : gd' = gd := by have := Option.some.inj e'; simp only [Addr.mk.injEq] at this; exact this.1.symm
  subst e''
  clear e' hdc
  have k3 : w1.cell? ⟨g, i * 7 + 1 + 3, none⟩ = some (.slice (some ⟨gd', 0, none⟩) nab.kd.length dc) := (row_step hA1.row i hA1.hi 4 _ (by rw [hA1.hx, ← ed]; rfl)).1
  have kI : w1.cell? ⟨g, i * 7 + 5, none⟩ = some (.int .i64 (kid : Int)) := (row_step hA1.row i hA1.hi 5 _ (by rw [hA1.hx, ← hkid]; rfl)).1
  obtain ⟨b1, Hb1⟩ : ∃ q, Hid (bt + 1 = q) := ⟨_, rfl⟩
  have hbw : IntKind.i64.wrap ((bt : Int) + 1) = (b1 : Int) := by rw [← Hb1.out, IntKind.wrap_i64]; omega
  have hi0 : (bt : Int) < (nab.kd.length : Int) := by omega
  have hi1 : (b1 : Int) < (nab.kd.length : Int) := by have := Hb1.out; omega
  have g0 : nab.kd.getD bt 0 = nab.kd[bt]'(by omega) := by rw [List.getD_eq_getElem?_getD, List.getElem?_eq_getElem (by omega)]; rfl
  have g1 : nab.kd.getD (bt + 1) 0 = nab.kd[bt + 1]'(by omega) := by rw [List.getD_eq_getElem?_getD, List.getElem?_eq_getElem (by omega)]; rfl
  rw [← g0] at c0
  rw [← g1] at c1
  rw [Hb1.out] at c1
  clear g0 g1
  obtain ⟨lf, Hlf⟩ : ∃ q, Hid (nab.kd.getD bt 0 = q) := ⟨_, rfl⟩
  obtain ⟨rt, Hrt⟩ : ∃ q, Hid (nab.kd.getD b1 0 = q) := ⟨_, rfl⟩
  rw [Hlf.out] at c0
  rw [Hrt.out] at c1
  obtain ⟨ld, Hld⟩ : ∃ q, Hid (nab.kd.length = q) := ⟨_, rfl⟩
  rw [Hld.out] at k3 hi0 hi1
  have HA1 := hide hA1
  have HKS := hide hks
  have HBT := hide hbt
  have HN6 := hide hn6
  clear hA1 hks hbt hn6 ed
  go_upto_region 1 with fail
  go_quiet (fail)
  have hkd : Kp none' w1 (w1.drewN nq) := Kp.drewN _ _ _
  replace q1 := hkd.cell q1 (fun h => h)
  replace q2 := hkd.cell q2 (fun h => h)
  replace q3 := hkd.cell q3 (fun h => h)
  replace q4 := hkd.cell q4 (fun h => h)
  replace kI := hkd.cell kI (fun h => h)
  replace hco := hco.kept hkd (fun h => h)
  have HC2 := hide (HC1.out.kept (o' := o1) hkd (fun _ _ _ h => h) (fun _ _ => rfl))
  have HW2 := hide (HW1.out.keptN hkd)
  have HA2 := hide (HA1.out.kept (o' := o1) hkd (fun _ _ _ h => h) (fun _ _ => rfl))
  have HN2 := hide (HN1.out.keptO hkd (fun _ _ h => h))
  have HK2 := hide (HKA.out.thenN hkd)
  have HG2 : Hid (gb + 1 < (w1.drewN nq).heap.size) := PW HGW.out hkd.size
  generalize w1.drewN nq = w2 at *
  clear HC1 HW1 HA1 HN1 HKA HGW hkd c0 c1 k3 hi0 hi1 hbw
  have HLE : Hid (s.l = n.leaf) := by
    obtain ⟨⟨pv, kv, dv, e0, _⟩, _⟩ := HN2.out
    unfold SpV.node at e0
    simp only [Value.agg.injEq, Array.mk.injEq, List.cons.injEq, Value.bool.injEq] at e0
    exact e0.1
  have HZ : Hid (coZ kid bt nab = if bt = kid then rt else lf) := by show _ = _; unfold coZ; rw [Hlf.out, Hb1.out, Hrt.out]
  obtain ⟨bq, Hbq⟩ : ∃ q, Hid (decide (bt = kid) = q) := ⟨_, rfl⟩
  have hbq : ((bt : Int) == (kid : Int)) = bq := by rw [← Hbq.out]; by_cases h : bt = kid; (simp [h]); (have h' : ¬ (bt : Int) = (kid : Int) := by omega); simp [h, h']
  have hex : ∃ z, z = coZ kid bt nab ∧ (bq = true → z = rt) ∧ (bq = false → z = lf) := by
    refine ⟨_, rfl, fun h => ?_, fun h => ?_⟩
    · rw [HZ.out, if_pos (by rw [h] at Hbq; exact of_decide_eq_true Hbq.out)]
    · rw [HZ.out, if_neg (by rw [h] at Hbq; exact of_decide_eq_false Hbq.out)]
  obtain ⟨z, Hz, hz1, hz2⟩ := hex
  have HTW := hide (CH b r C.k z 1 [wv, tv, sv] 102 V c mm C.S w2 HC2.out.hd HW2.out (by omega))
  have Hz' := hide Hz
  clear Hz HZ
  have HE0 : Hid (C.coE (coZ kid bt nab) = trE C.S C.k z 1 ∧ C.coN (coZ kid bt nab) = trN C.S C.k z 1 ∧ C.co (coZ kid bt nab) = { C with k := trK C.S C.k z }) := by rw [← Hz'.out]; exact ⟨rfl, rfl, rfl⟩
  obtain ⟨E, HE⟩ : ∃ q, Hid (trE C.S C.k z 1 = q) := ⟨_, rfl⟩
  obtain ⟨nn, Hnn⟩ : ∃ q, Hid (trN C.S C.k z 1 = q) := ⟨_, rfl⟩
  obtain ⟨kk, Hkk⟩ : ∃ q, Hid (trK C.S C.k z = q) := ⟨_, rfl⟩
  unfold B8 at HTW
  rw [HE.out, Hnn.out, Hkk.out] at HE0
  simp only [HE.out, Hnn.out, Hkk.out] at HTW
  cases bq
  all_goals
    first | (have hz := (hz1 rfl).symm; subst hz) | (have hz := (hz2 rfl).symm; subst hz)
    clear hz1 hz2
    go_upto_region 6 with (first
      | (go_at_call 46; refine HTW.out.mono ?_; rintro e w3 ⟨l3, a4, m4, c4, a5, m5, c5, a6, m6, c6, rfl, hO3, hWl3, hk3⟩)
      | fail)
    have HFIN : Hid (∀ W, Kp (fun k => k = gb + 1) w3 W → Cm W b r o1 (C.co (coZ kid bt nab)) wv tv sv xs ∧ Wk W r V c mm C.S ∧ Kp (only b) w W) := by
      intro W hkW
      have h9 := HOG.out.2
      have hob := HC2.out.ob
      rw [HE0.out.2.2]
      refine ⟨(HC2.out.walk hWl3 hk3 (fun _ _ => rfl)).kept hkW (fun k _ e e' => by subst e'; omega) (fun _ _ => rfl), (HW2.out.kept hk3 (fun k _ e e' => by unfold only at e'; subst e'; have := HV1.out k e; omega)).kept hkW (fun k _ e e' => by subst e'; have := HV1.out _ e; omega), (HK2.out.trans hk3 (fun _ _ h => by cases h) (fun _ _ h => h)).trans hkW (fun _ _ h => h) (fun k hk' e => by have := Hgb.out; omega)⟩
    have hbne : ¬ only b (gb + 1) := fun e => by unfold only at e; have := HC2.out.ob; have := HOG.out.2; rw [e] at this; omega
    have hbne0 : ¬ only b gb := fun e => by unfold only at e; have := HC2.out.ob; have := HOG.out.1; rw [e] at this; omega
    have nb4 := Nb.new w3 l3 (.slice a4 m4 c4) (.slice a5 m5 c5) (.slice a6 m6 c6)
    have hk4 : Kp none' w3 (w3.alloc (.cells #[.bool l3, .slice a4 m4 c4, .slice a5 m5 c5, .slice a6 m6 c6] 73)) := Kp.alloc _ _ _
    have hco4 := (hco.kept hk3 hbne).kept hk4 (fun h => h)
    replace q1 := hk4.cell (hk3.cell q1 hbne0) (fun h => h)
    replace q2 := hk4.cell (hk3.cell q2 hbne0) (fun h => h)
    replace q3 := hk4.cell (hk3.cell q3 hbne0) (fun h => h)
    replace q4 := hk4.cell (hk3.cell q4 hbne0) (fun h => h)
    have x0 := nb4.c0
    have x1 := nb4.c1
    have x2 := nb4.c2
    have x3 := nb4.c3
    have HO3 := hide hO3
    have HK3 := hide hk3
    have HG3 : Hid (gb + 1 < w3.heap.size) := PW HG2.out hk3.size
    obtain ⟨g14, Hg14⟩ : ∃ q, Hid (w3.heap.size = q) := ⟨_, rfl⟩
    rw [Hg14.out] at nb4 x0 x1 x2 x3 ⊢
    generalize w3.alloc (.cells #[.bool l3, .slice a4 m4 c4, .slice a5 m5 c5, .slice a6 m6 c6] 73) = w4 at *
    have HK4 := hide hk4
    clear hO3 hWl3 hk3 hk4 hbne hbne0 hco HTW
    by_cases h0 : E = 0
    · have hg0 : (E != 0) = false := by rw [h0]; rfl
      have H0 := hide h0
      clear h0
      by_cases hl : nn.leaf = n.leaf
      · have hgl : (!(l3 == s.l)) = false := by have h1 : l3 = nn.leaf := HO3.out.l; rw [h1, HLE.out, hl]; simp
        have HLL := hide hl
        clear hl
        go_upto_region 10 with fail
        go_cut [16, 17] from 62 to 64 (fun t16 t17 W => ∃ g16 g17, t16 = .pointer (some ⟨g16, 0, none⟩) ∧ t17 = .pointer (some ⟨g17, 0, none⟩) ∧ g16 ≠ g17 ∧ Nb W g16 l3 (.slice a4 m4 c4) (.slice a5 m5 c5) (.slice a6 m6 c6) ∧ Nb W g17 s.l (.slice s.a1 s.n1 s.c1) (.slice s.a2 s.n2 s.c2) (.slice s.a3 s.n3 s.c3) ∧ Kp none' w4 W ∧ w4.heap.size ≤ g16 ∧ w4.heap.size ≤ g17)
        case first =>
          have x0a : ∀ oo, (w4.alloc oo).cell? ⟨g14, 0, none⟩ = some (.bool l3) := fun oo => (Kp.alloc none' w4 oo).cell x0 (fun h => h)
          have x0b : ∀ oo o2, ((w4.alloc oo).alloc o2).cell? ⟨g14, 0, none⟩ = some (.bool l3) := fun oo o2 => (Kp.alloc none' (w4.alloc oo) o2).cell (x0a oo) (fun h => h)
          have x1a : ∀ oo, (w4.alloc oo).cell? ⟨g14, 1, none⟩ = some (.slice a4 m4 c4) := fun oo => (Kp.alloc none' w4 oo).cell x1 (fun h => h)
          have x1b : ∀ oo o2, ((w4.alloc oo).alloc o2).cell? ⟨g14, 1, none⟩ = some (.slice a4 m4 c4) := fun oo o2 => (Kp.alloc none' (w4.alloc oo) o2).cell (x1a oo) (fun h => h)
          have x2a : ∀ oo, (w4.alloc oo).cell? ⟨g14, 2, none⟩ = some (.slice a5 m5 c5) := fun oo => (Kp.alloc none' w4 oo).cell x2 (fun h => h)
          have x2b : ∀ oo o2, ((w4.alloc oo).alloc o2).cell? ⟨g14, 2, none⟩ = some (.slice a5 m5 c5) := fun oo o2 => (Kp.alloc none' (w4.alloc oo) o2).cell (x2a oo) (fun h => h)
          have x3a : ∀ oo, (w4.alloc oo).cell? ⟨g14, 3, none⟩ = some (.slice a6 m6 c6) := fun oo => (Kp.alloc none' w4 oo).cell x3 (fun h => h)
          have x3b : ∀ oo o2, ((w4.alloc oo).alloc o2).cell? ⟨g14, 3, none⟩ = some (.slice a6 m6 c6) := fun oo o2 => (Kp.alloc none' (w4.alloc oo) o2).cell (x3a oo) (fun h => h)
          have q1a : ∀ oo, (w4.alloc oo).cell? ⟨gb, 1, none⟩ = some (.bool s.l) := fun oo => (Kp.alloc none' w4 oo).cell q1 (fun h => h)
          have q1b : ∀ oo o2, ((w4.alloc oo).alloc o2).cell? ⟨gb, 1, none⟩ = some (.bool s.l) := fun oo o2 => (Kp.alloc none' (w4.alloc oo) o2).cell (q1a oo) (fun h => h)
          have q2a : ∀ oo, (w4.alloc oo).cell? ⟨gb, 1 + 1, none⟩ = some (.slice s.a1 s.n1 s.c1) := fun oo => (Kp.alloc none' w4 oo).cell q2 (fun h => h)
          have q2b : ∀ oo o2, ((w4.alloc oo).alloc o2).cell? ⟨gb, 1 + 1, none⟩ = some (.slice s.a1 s.n1 s.c1) := fun oo o2 => (Kp.alloc none' (w4.alloc oo) o2).cell (q2a oo) (fun h => h)
          have q3a : ∀ oo, (w4.alloc oo).cell? ⟨gb, 1 + 2, none⟩ = some (.slice s.a2 s.n2 s.c2) := fun oo => (Kp.alloc none' w4 oo).cell q3 (fun h => h)
          have q3b : ∀ oo o2, ((w4.alloc oo).alloc o2).cell? ⟨gb, 1 + 2, none⟩ = some (.slice s.a2 s.n2 s.c2) := fun oo o2 => (Kp.alloc none' (w4.alloc oo) o2).cell (q3a oo) (fun h => h)
          have q4a : ∀ oo, (w4.alloc oo).cell? ⟨gb, 1 + 3, none⟩ = some (.slice s.a3 s.n3 s.c3) := fun oo => (Kp.alloc none' w4 oo).cell q4 (fun h => h)
          have q4b : ∀ oo o2, ((w4.alloc oo).alloc o2).cell? ⟨gb, 1 + 3, none⟩ = some (.slice s.a3 s.n3 s.c3) := fun oo o2 => (Kp.alloc none' (w4.alloc oo) o2).cell (q4a oo) (fun h => h)
          clear nb4 hco4
          go_region_law (fail)
          all_goals (
            go_wp2
            go_meet
            case rel => first | (have h := KH w4 l3 s.l (.slice a4 m4 c4) (.slice a5 m5 c5) (.slice a6 m6 c6) (.slice s.a1 s.n1 s.c1) (.slice s.a2 s.n2 s.c2) (.slice s.a3 s.n3 s.c3); exact ⟨w4.heap.size, w4.heap.size + 1, rfl, rfl, by omega, h.1, h.2.1, h.2.2, Nat.le_refl _, by omega⟩) | (have h := KH w4 s.l l3 (.slice s.a1 s.n1 s.c1) (.slice s.a2 s.n2 s.c2) (.slice s.a3 s.n3 s.c3) (.slice a4 m4 c4) (.slice a5 m5 c5) (.slice a6 m6 c6); exact ⟨w4.heap.size + 1, w4.heap.size, rfl, rfl, by omega, h.2.1, h.1, h.2.2, by omega, Nat.le_refl _⟩))
        case rest =>
          obtain ⟨g16, g17, rfl, rfl, hne, n16, n17, hk5, hG16, hG17⟩ := hcut
          have kI5 := hk5.cell (HK4.out.cell (HK3.out.cell kI (fun e => by unfold only at e; have := HC2.out.ob; have := HA2.out.og; rw [e] at this; omega)) (fun h => h)) (fun h => h)
          clear kI x0 x1 x2 x3 q1 q2 q3 q4
          have y0 := n16.c0
          have y1 := n16.c1
          have y2 := n16.c2
          have y3 := n16.c3
          have z0 := n17.c0
          have z1 := n17.c1
          have z2 := n17.c2
          have z3 := n17.c3
          go_upto_region 13 with (first
            | (refine Af rfl rfl (.tmp 16) (.tmp 71) rfl g16 rfl rfl n16 ?_; clear n16; intro w6 n16 hk6; replace n17 := Ax n17 (by omega) hk6; replace hk5 := Av hk5 hG16 hk6)
            | (refine Af rfl rfl (.tmp 17) (.tmp 72) rfl g17 rfl rfl n17 ?_; clear n17; intro w7 n17 hk7; replace n16 := Ax n16 (by omega) hk7; replace hk5 := Av hk5 hG17 hk7)
            | fail)
          clear y0 y1 y2 y3 z0 z1 z2 z3 kI5
          first | (generalize w7 = W at *) | (generalize wc = W at *)
          have y0 := n16.c0
          have y1 := n16.c1
          have y2 := n16.c2
          have y3 := n16.c3
          have z0 := n17.c0
          have z1 := n17.c1
          have z2 := n17.c2
          have z3 := n17.c3
          have hlab : ∀ k, o1 k = 6 → ¬ only b k := fun k e e' => by unfold only at e'; subst e'; have := HC2.out.ob; omega
          have hA5 := ((HA2.out.kept (o' := o1) HK3.out (fun k _ e => hlab k e) (fun _ _ => rfl)).kept (o' := o1) HK4.out (fun _ _ _ h => h) (fun _ _ => rfl)).kept (o' := o1) hk5 (fun _ _ _ h => h) (fun _ _ => rfl)
          have hNs := ((HN2.out.keptO HK3.out (fun k e e' => by unfold only at e'; subst e'; have := HC2.out.ob; exact HSO.out k e this)).keptO HK4.out (fun _ _ h => h)).keptO hk5 (fun _ _ h => h)
          have hNn : Nv W.heap.size W (.agg #[.bool l3, .slice a4 m4 c4, .slice a5 m5 c5, .slice a6 m6 c6]) nn := ((HO3.out.kept HK4.out (fun _ _ _ h => h)).kept hk5 (fun _ _ _ h => h)).nv
          obtain ⟨ka, kc, ek, hkc⟩ := hA5.nd.k.open
          obtain ⟨gk, rfl, _, ck⟩ := hkc bt HBT.out
          have kK : W.cell? ⟨g, i * 7 + 1 + 2, none⟩ = some (.slice (some ⟨gk, 0, none⟩) nab.ks.length kc) := (row_step hA5.row i hA5.hi 3 _ (by rw [hA5.hx, ← ek]; rfl)).1
          have gkk : nab.ks.getD bt ⟨#[]⟩ = nab.ks[bt]'HBT.out := by rw [List.getD_eq_getElem?_getD, List.getElem?_eq_getElem HBT.out]; rfl
          rw [← gkk] at ck
          have hkey : (nab.ks.getD bt ⟨#[]⟩).size ≤ maxLen := by rw [gkk]; exact hA5.nd.wf.k _ (List.getElem_mem _)
          obtain ⟨key, Hkey⟩ : ∃ q, Hid (nab.ks.getD bt ⟨#[]⟩ = q) := ⟨_, rfl⟩
          rw [Hkey.out] at ck hkey
          have hbi : (bt : Int) < (nab.ks.length : Int) := by have := HBT.out; omega
          rw [HE0.out.2.1] at hnn
          obtain ⟨J, HJE⟩ : ∃ q, Hid (C.coJ kid bt n nab = q) := ⟨_, rfl⟩
          have dr : Kp none' W W.drew := Kp.drew _ _
          have hNsd := hNs.keptO dr (fun _ _ h => h)
          have hNnd := PN hNn dr
          first
            | (have hbk : bt = kid := of_decide_eq_true Hbq.out
               have hJ := GD s.node _ n nn W.drew.heap.size key W.drew hNsd hNnd (Nat.le_refl _) hkey (by omega) (by omega) (by omega) (by omega) (by omega) (by omega)
               have eJ : n.join nn key = J := by rw [← HJE.out]; unfold Cg.coJ; rw [if_pos hbk, HE0.out.2.1, Hkey.out])
            | (have hbk : ¬ bt = kid := of_decide_eq_false Hbq.out
               have hJ := GD _ s.node nn n W.drew.heap.size key W.drew hNnd hNsd (Nat.le_refl _) hkey (by omega) (by omega) (by omega) (by omega) (by omega) (by omega)
               have eJ : nn.join n key = J := by rw [← HJE.out]; unfold Cg.coJ; rw [if_neg hbk, HE0.out.2.1, Hkey.out])
          rw [eJ] at hJ
          unfold SpV.node at hJ
          have HJ := hide hJ
          have hco5 := hco4.kept hk5 (fun h => h)
          have HK5 := hide hk5
          clear hJ eJ hNsd hNnd hNs hNn hA5 hk5 hco4 n16 n17 ek hkc gkk hbk hlab
          go_region_law (first
            | (go_simp; go_at_call 194; refine HJ.out.mono ?_; rintro e w8 ⟨jv, rfl, hJ8, hk8, hfr8⟩; obtain ⟨lj, b4, e4, f4, b5, e5, f5, b6, e6, f6, rfl, hfr8⟩ := hfr8; have hco8 := (hco5.kept dr (fun h => h)).kept hk8 (fun h => h); have d0 := hco8.c0; have fz0 := hco8.fz 0; have d1 := hco8.c1; have fz1 := hco8.fz 1; have d2 := hco8.c2; have fz2 := hco8.fz 2; have d3 := hco8.c3; have fz3 := hco8.fz 3; have d4 := hco8.c4; have fz4 := hco8.fz 4; have d5 := hco8.c5; have fz5 := hco8.fz 5; have d6 := hco8.c6; have fz6 := hco8.fz 6)
            | fail)
          all_goals (
            go_wp2
            obtain ⟨hco9, hk9⟩ := hco8.put (.int .i64 lf) (.int .i64 rt) (.int .i64 (bt : Int)) (.bool lj) (.slice b4 e4 f4) (.slice b5 e5 f5) (.slice b6 e6 f6)
            refine bodyPost_ret (DC rfl _ (gb + 1) _ (.bool true) (.int .i64 0) rfl rfl rfl hco9) rfl ?_
            revert hk9 hco9
            generalize ((((((w8.setCell ⟨gb + 1, 0, none⟩ (.int .i64 lf)).setCell ⟨gb + 1, 1, none⟩ (.int .i64 rt)).setCell ⟨gb + 1, 2, none⟩ (.int .i64 (bt : Int))).setCell ⟨gb + 1, 3, none⟩ (.bool lj)).setCell ⟨gb + 1, 4, none⟩ (.slice b4 e4 f4)).setCell ⟨gb + 1, 5, none⟩ (.slice b5 e5 f5)).setCell ⟨gb + 1, 6, none⟩ (.slice b6 e6 f6) = w9
            intro hco9 hk9
            have hk39 : Kp (fun k => k = gb + 1) w3 W := ((HK4.out.thenN HK5.out)).mono (fun _ _ h => by cases h)
            have hkW9 : Kp (only (gb + 1)) W w9 := ((dr.thenN hk8).mono (fun _ _ h => by cases h)).then hk9
            obtain ⟨f1, _, _⟩ := HFIN.out W hk39
            obtain ⟨_, g2, g3⟩ := HFIN.out w9 (hk39.then (hkW9.mono (fun _ _ e => e)))
            have hgW : gb + 1 < W.heap.size := PW HG3.out hk39.size
            have hwW : w.heap.size ≤ W.heap.size := by have := Hgb.out; omega
            refine ⟨lab o1 W.heap.size 0, fun k e => by rw [Ad (by omega)]; exact HOLD.out k e, f1.kept hkW9 (fun k _ e e' => by unfold only at e'; subst e'; have := HOG.out.2; omega) (fun k e => Ad e), g2, g3, ?_⟩
            unfold CoupV
            rw [HE0.out.1, if_pos H0.out, HE0.out.2.1, if_pos HLL.out]
            refine ⟨⟨nab.kd.getD bt 0, lj, b4, e4, f4, b5, e5, f5, b6, e6, f6, 0, 0⟩, rfl, rfl, rfl, ⟨rfl, ?_, fun k e => ⟨PW (hfr8 k e).2 hk9.size, Aq (hfr8 k e).1⟩⟩, ?_⟩
            · rw [HJE.out]
              exact Nv.keptO (x := ⟨nab.kd.getD bt 0, lj, b4, e4, f4, b5, e5, f5, b6, e6, f6, 0, 0⟩) hJ8 hk9 (fun k e e' => by unfold only at e'; have h1 : W.heap.size ≤ k := (hfr8 k e).1; omega)
            · simp only [Hlf.out, Hb1.out, Hrt.out])
      · have hgl : (!(l3 == s.l)) = true := by have h1 : l3 = nn.leaf := HO3.out.l; rw [h1, HLE.out]; simp [hl]
        have HEND : Hid (∀ W, Kp (only (gb + 1)) w4 W → FL b r c mm o V C wv tv sv xs kid bt n nab w W (.returned (.tuple #[.agg #[.int .i64 0, .int .i64 0, .int .i64 0, .bool false, .slice none 0 0, .slice none 0 0, .slice none 0 0], .bool false, .int .i64 0]))) := by
          intro W hk
          obtain ⟨f1, f2, f3⟩ := HFIN.out W ((HK4.out.mono (fun _ _ h => by cases h)).then (hk.mono (fun _ _ e => e)))
          refine ⟨o1, HOLD.out, f1, f2, f3, ?_⟩
          unfold CoupV
          rw [HE0.out.1, if_pos H0.out, HE0.out.2.1, if_neg hl]
        clear hl
        go_wp2_with (first
          | (refine Cr rfl rfl (.tmp 8) (.tmp 61) rfl (gb + 1) rfl rfl hco4 ?_; intro w5 hco5 hk5)
          | fail)
        refine bodyPost_ret (DC rfl _ (gb + 1) _ _ _ rfl rfl rfl hco5) rfl ?_
        exact HEND.out w5 hk5
    · have hg0 : (E != 0) = true := by rw [bne_iff_ne]; exact h0
      have HEND : Hid (∀ W, Kp (only (gb + 1)) w4 W → FL b r c mm o V C wv tv sv xs kid bt n nab w W (.returned (.tuple #[.agg #[.int .i64 0, .int .i64 0, .int .i64 0, .bool false, .slice none 0 0, .slice none 0 0, .slice none 0 0], .bool false, .int .i64 E]))) := by
        intro W hk
        obtain ⟨f1, f2, f3⟩ := HFIN.out W ((HK4.out.mono (fun _ _ h => by cases h)).then (hk.mono (fun _ _ e => e)))
        refine ⟨o1, HOLD.out, f1, f2, f3, ?_⟩
        unfold CoupV
        rw [HE0.out.1, if_neg h0]
      clear h0
      go_wp2_with (first
        | (refine Cr rfl rfl (.tmp 8) (.tmp 53) rfl (gb + 1) rfl rfl hco4 ?_; intro w5 hco5 hk5)
        | fail)
      refine bodyPost_ret (DC rfl _ (gb + 1) _ _ _ rfl rfl rfl hco5) rfl ?_
      exact HEND.out w5 hk5
end Go.Proofs.YtjojffepakclcaaGreatDoor
