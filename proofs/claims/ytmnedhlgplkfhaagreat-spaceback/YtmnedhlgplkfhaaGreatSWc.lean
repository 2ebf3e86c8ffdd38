/- Contracts, over the turned program: a page of a piece of work is changed, its bit is turned; noughts. Conditions: those that each theorem states. -/
import Derived.Test.YtmnedhlgplkfhaaGreatSWm
import Derived.Test.YtmnedhlgplkfhaaGreatJS3
import Derived.Test.YtmnedhlgplkfhaaGreatSShelf
import Derived.Test.YtmnedhlgplkfhaaGreatJP4
import Derived.Deep.RegionLaw
import Derived.Deep.RegionHeldLaw
import Derived.Test.YtmnedhlgplkfhaaGreatJP2
namespace Go.Proofs.YtmnedhlgplkfhaaGreat
open Go.RowKit
set_option linter.unusedVariables false

/-- So many noughts. -/
def zeroB (n : Nat) : ByteArray := ⟨(List.replicate n 0).toArray⟩
theorem zeroB_size (n : Nat) : (zeroB n).size = n := by
  show (List.replicate n (0 : UInt8)).toArray.size = n
  simp
theorem zeroB_fill : zeroB 256 = fillB 0 := rfl
theorem repeat_zero (n : Nat) : Lib.repeatL [0] n = List.replicate n 0 := by
  induction n with
  | zero => rfl
  | succ n ih => show [0] ++ Lib.repeatL [0] n = _; rw [ih, List.replicate_succ]; rfl
set_option maxRecDepth 100000 in
set_option maxHeartbeats 400000 in
theorem szeros_any (n : Nat) (w : World) (hn : n ≤ 1000) : Calls Tryz.prog 55 #[.int .i64 (n : Int)] w fun e w' => e = .returned (.string (zeroB n)) ∧ Kp none' w w' := by
  have hr := strings_Repeat ⟨#[0]⟩ n w (by omega) (by show 1 * n ≤ _; omega)
  have e : (⟨(Lib.repeatL (⟨#[0]⟩ : ByteArray).data.toList n).toArray⟩ : ByteArray) = zeroB n := by
    show (⟨(Lib.repeatL [0] n).toArray⟩ : ByteArray) = _
    rw [repeat_zero]
    rfl
  rw [e] at hr
  obtain ⟨Z, HZ⟩ : ∃ Z, Hid (zeroB n = Z) := ⟨_, rfl⟩
  rw [HZ.out] at hr ⊢
  go_enter Tryz.func55, Tryz.ntmps55
  go_wp2_with (first
    | (go_at_call 74; refine hr.mono ?_; rintro e w' ⟨rfl, hb⟩)
    | fail)
  go_ret
  exact ⟨rfl, Kp.ofBelow hb⟩
/-- A page is stored. -/
theorem Wm.putPage {w : World} {r gP : Nat} {V : Nat → Prop} {c : Nat} {P : List ByteArray} {NL : List (List Chg)} (H : Wm w r gP V c P NL) (n : Nat) (x : ByteArray) (hn : n < P.length) : Wm (w.setCell ⟨gP, n, none⟩ (.string x)) r gP V c (P.set n x) NL ∧ Kp (only gP) w (w.setCell ⟨gP, n, none⟩ (.string x)) := by
  have hp := Put.set w gP n (.string x) _ (H.pageAt n hn).1
  have hrg : ¬ only gP r := fun e => H.gg.2.2 (Eq.symm e)
  obtain ⟨cN, b1, b2⟩ := H.c2
  obtain ⟨v, vs, d1, d2, d3, d4, d5, d6⟩ := H.c3
  refine ⟨⟨hp.kp.cell H.c0 hrg, hp.kp.cell H.c1 hrg, ⟨cN, by rw [List.length_set]; exact hp.kp.cell b1 hrg, by rw [List.length_set]; exact Ow.storedS b2 n x rfl⟩, ⟨v, vs, hp.kp.cell d1 hrg, d2.kept hp.kp (fun k hk e => (d3 k hk).2.2 e), d3, d4, fun i h h' => ⟨(d5 i h h').1.kept hp.kp (fun k hk e => ((d5 i h h').2 k hk).2.2.1 e), (d5 i h h').2⟩, d6⟩, fun j => by rw [hp.fr]; exact H.fr j, H.gg⟩, hp.kp⟩
/-- A note is stored. -/
theorem Wm.putNote {w w2 : World} {r gP : Nat} {V : Nat → Prop} {c : Nat} {P : List ByteArray} {NL : List (List Chg)} (H : Wm w r gP V c P NL) {gV nv cap : Nat} {vs : List Value}
    (d1 : w.cell? ⟨r, 3, none⟩ = some (.slice (some ⟨gV, 0, none⟩) nv cap)) (d2 : Ow (fun x : Value => x) 73 w 0 (.slice (some ⟨gV, 0, none⟩) nv cap) vs) (d3 : ∀ k, (Value.slice (some ⟨gV, 0, none⟩) nv cap).ownBlock = some k → V k ∧ k ≠ r ∧ k ≠ gP) (d4 : vs.length = NL.length)
    (d5 : ∀ i (h : i < vs.length) (h' : i < NL.length), OwC 76 w 0 vs[i] NL[i] ∧ ∀ k, vs[i].ownBlock = some k → V k ∧ k ≠ r ∧ k ≠ gP ∧ (Value.slice (some ⟨gV, 0, none⟩) nv cap).ownBlock ≠ some k)
    (d6 : ∀ i j (h : i < vs.length) (h' : j < vs.length), i ≠ j → ∀ k, vs[i].ownBlock = some k → vs[j].ownBlock ≠ some k)
    (k : Nat) (hk : k < vs.length) {u : Value} {l : List Chg} (hO : OwC 76 w2 0 u l) (hK : Kp (fun b => vs[k].ownBlock = some b) w w2) (hu : ∀ b, u.ownBlock = some b → vs[k].ownBlock = some b ∨ w.heap.size ≤ b) :
    Wm (w2.setCell ⟨gV, k, none⟩ u) r gP (fun b => V b ∨ w.heap.size ≤ b) c P (NL.set k l) ∧ Kp V w (w2.setCell ⟨gV, k, none⟩ u) := by
  have hgV := d3 gV rfl
  have hkN : k < NL.length := by omega
  have hvk := (d5 k hk hkN).2
  have hngV : ¬ vs[k].ownBlock = some gV := fun e => (hvk gV e).2.2.2 rfl
  have hnr : ¬ vs[k].ownBlock = some r := fun e => (hvk r e).2.1 rfl
  have hngP : ¬ vs[k].ownBlock = some gP := fun e => (hvk gP e).2.2.1 rfl
  have hgVlt : gV < w.heap.size := (d2.lt gV rfl).2
  have d22 := d2.kept hK (fun b e => by have e' : gV = b := Option.some.inj e; subst e'; exact hngV)
  have hc := d22.cellAt k hk
  have hp := Put.set w2 gV k u _ hc.1
  have KF : Kp (fun b => b = gV ∨ vs[k].ownBlock = some b) w (w2.setCell ⟨gV, k, none⟩ u) := (hK.mono (fun b _ h => .inr h)).then (hp.kp.mono (fun b _ e => .inl e))
  have nr : ¬ (r = gV ∨ vs[k].ownBlock = some r) := fun e => by
    rcases e with e | e
    · exact hgV.2.1 e.symm
    · exact hnr e
  have ngP : ¬ (gP = gV ∨ vs[k].ownBlock = some gP) := fun e => by
    rcases e with e | e
    · exact hgV.2.2 e.symm
    · exact hngP e
  obtain ⟨cN, b1, b2⟩ := H.c2
  have hgPlt : gP < w.heap.size := (b2.lt gP rfl).2
  have hrlt := H.lt
  have hub : ∀ b, u.ownBlock = some b → (V b ∨ w.heap.size ≤ b) ∧ b ≠ r ∧ b ≠ gP ∧ (Value.slice (some ⟨gV, 0, none⟩) nv cap).ownBlock ≠ some b := fun b hb => by
    rcases hu b hb with h | h
    · exact ⟨.inl (hvk b h).1, (hvk b h).2⟩
    · exact ⟨.inr h, by omega, by omega, fun e => by have e' : gV = b := Option.some.inj e; omega⟩
  have d6' : ∀ i (h : i < vs.length), i ≠ k → ∀ b, vs[i].ownBlock = some b → u.ownBlock ≠ some b := fun i h hne b hb hb' => by
    rcases hu b hb' with e | e
    · exact d6 i k h hk hne b hb e
    · have := ((d5 i h (by omega)).1.lt b hb).2
      omega
  refine ⟨⟨KF.cell H.c0 nr, KF.cell H.c1 nr, ⟨cN, KF.cell b1 nr, b2.kept KF (fun b e => by have e' : gP = b := Option.some.inj e; subst e'; exact ngP)⟩, ⟨_, vs.set k u, KF.cell d1 nr, (Ow.stored d22 k u).1, fun b hb => ⟨.inl (d3 b hb).1, (d3 b hb).2⟩, by rw [List.length_set, List.length_set]; exact d4, fun i h h' => ?_, fun i j h h' hne b hb => ?_⟩, fun j => by rw [KF.frozen hrlt nr]; exact H.fr j, .inl H.gg.1, .inl H.gg.2.1, H.gg.2.2⟩, KF.mono (fun b _ e => ?_)⟩
  · rw [List.length_set] at h h'
    by_cases e : k = i
    · subst e
      have e1 : (vs.set k u)[k]'(by rw [List.length_set]; exact hk) = u := by simp
      have e2 : (NL.set k l)[k]'(by rw [List.length_set]; exact hkN) = l := by simp
      rw [e1, e2]
      exact ⟨hO.kept hp.kp (fun b hb e => (hub b hb).2.2.2 (by have e' : b = gV := e; rw [e']; rfl)), hub⟩
    · have e1 : (vs.set k u)[i]'(by rw [List.length_set]; exact h) = vs[i] := by rw [List.getElem_set_ne e]
      have e2 : (NL.set k l)[i]'(by rw [List.length_set]; exact h') = NL[i] := by rw [List.getElem_set_ne e]
      rw [e1, e2]
      have hi := d5 i h h'
      refine ⟨hi.1.kept KF (fun b hb e' => ?_), fun b hb => ⟨.inl (hi.2 b hb).1, (hi.2 b hb).2⟩⟩
      rcases e' with e' | e'
      · exact (hi.2 b hb).2.2.2 (by rw [e']; rfl)
      · exact d6 i k h hk (fun e'' => e e''.symm) b hb e'
  · rw [List.length_set] at h h'
    by_cases ei : k = i
    · subst ei
      have e1 : (vs.set k u)[k]'(by rw [List.length_set]; exact hk) = u := by simp
      have e2 : (vs.set k u)[j]'(by rw [List.length_set]; exact h') = vs[j] := by rw [List.getElem_set_ne hne]
      rw [e1] at hb
      rw [e2]
      exact fun hb' => d6' j h' (fun e => hne e.symm) b hb' hb
    · have e1 : (vs.set k u)[i]'(by rw [List.length_set]; exact h) = vs[i] := by rw [List.getElem_set_ne ei]
      rw [e1] at hb
      by_cases ej : k = j
      · subst ej
        have e2 : (vs.set k u)[k]'(by rw [List.length_set]; exact hk) = u := by simp
        rw [e2]
        exact d6' i h (fun e => ei e.symm) b hb
      · have e2 : (vs.set k u)[j]'(by rw [List.length_set]; exact h') = vs[j] := by rw [List.getElem_set_ne ej]
        rw [e2]
        exact d6 i j h h' hne b hb
  · rcases e with e | e
    · rw [e]; exact hgV.1
    · exact (hvk b e).1
theorem rpstep_app_d {P : Program} {w : World} {ops : Array Oper} {o : Oper} {a : Act} {K : Act → World → Prop} {Q : Exit → Act → World → Prop} {E : Prop} {d : Nat} (hgd : o.guard = none) (hd : o.dst = some d) (s x : Operand) (t tx : TypeId)
    (ho : o.op = .call { callee := .builtin .append, args := #[s, x], argTypes := #[t, tx] }) (v xv : Value) (hs : a.eval s = v) (hx : a.eval x = xv) {v' : Value} {w' : World}
    (hr : (Builtin.append_ #[t, tx] o.type #[v, xv]).run P w = .ok v' w') (h : K (a.put (some d) v') w') : if Region.wanted o (yielded ops a.tmps) = true then Oper.wp P o a w K Q else E :=
  rpstep_app_at hgd s x t tx ho v xv hs hx hr (by rw [hd]; exact h)
/-- A change behind others. -/
theorem app_chg (w : World) (base : Nat) (v : Value) (l : List Chg) (x : Chg) (hO : OwC 76 w base v l) (hl : l.length ≤ 1000000) (hb : base ≤ w.heap.size) :
    ∃ v' w', (Builtin.append_ #[73, 73] 73 #[v, .slice (some ⟨w.heap.size, 0, none⟩) 1 1]).run Tryz.prog (w.alloc (.cells #[.int .i64 x.page, .string x.data] 76)) = .ok v' w' ∧ OwC 76 w' base v' (l ++ [x]) ∧ Kp (fun b => v.ownBlock = some b) w w' ∧ (∀ b, v'.ownBlock = some b → v.ownBlock = some b ∨ w.heap.size < b) := by
  obtain ⟨i0, hi, hz0, hz1, hz2⟩ := info_parts infoChg
  have ka := Kp.alloc none' w (.cells #[.int .i64 x.page, .string x.data] 76)
  have hs : (w.alloc (.cells #[.int .i64 x.page, .string x.data] 76)).heap.size = w.heap.size + 1 := by simp
  obtain ⟨v', w', h1, h2, h3, h4⟩ := run_append_own_row (P := Tryz.prog) (w.alloc (.cells #[.int .i64 x.page, .string x.data] 76)) base 73 73 73 76 i0 _ 2 24 Tryz.underlying73 hi hz0 (by rfl) hz1 hz2 v l.length (ccs l) (hO.keptN ka) _ 1 [.int .i64 x.page, .string x.data] (src_two w 73 76 Tryz.underlying73 _ _ rfl rfl _ rfl) (by omega) (by omega) (by unfold maxLen; omega) (by omega)
  refine ⟨v', w', h1, OwC.snoc h2, (ka.mono (fun _ _ h => h.elim)).then (Kp.ofGrown h3 (fun b he _ => he)), fun b hb' => ?_⟩
  rcases h4 with h | h
  · exact .inl (by rw [← h]; exact hb')
  · rw [h, hs] at hb'
    have : w.heap.size + 1 = b := Option.some.inj hb'
    exact .inr (by omega)
set_option maxRecDepth 100000 in
set_option maxHeartbeats 1600000 in
theorem schange_any (r gP c n : Nat) (V : Nat → Prop) (P : List ByteArray) (NL : List (List Chg)) (x : ByteArray) (w : World) (H : Wm w r gP V c P NL) (hn : n < P.length) (h1 : P.length ≤ 160) (hN : NL.length ≤ 10000) (hl : ∀ l ∈ NL, l.length ≤ 10000) (hpg : ∀ l ∈ NL, ∀ c ∈ l, 0 ≤ c.page ∧ c.page < (P.length : Int)) :
    Calls Tryz.prog 54 #[.pointer (some ⟨r, 0, none⟩), .int .i64 (n : Int), .string x] w fun e w' => e = .returned (.tuple #[]) ∧ Wm w' r gP (fun b => V b ∨ w.heap.size ≤ b) c (P.set n x) (chgN P NL n) ∧ Kp V w w' := by
  obtain ⟨cN, c2, _⟩ := H.c2
  obtain ⟨v, vs, d1, d2, d3, d4, d5, d6⟩ := H.c3
  obtain ⟨na, nc, hv, hvk⟩ := d2.open
  rw [d4] at hv
  have hni : (n : Int) < (P.length : Int) := by omega
  by_cases hN0 : NL.length = 0
  · have e1 : chgN P NL n = NL := by unfold chgN; rw [if_pos hN0]
    rw [e1]
    obtain ⟨g0, gf⟩ := H.pageAt n hn
    obtain ⟨p1, p2⟩ := H.putPage n x hn
    have HF1 := hide (p1.mono (V' := fun b => V b ∨ w.heap.size ≤ b) (fun _ _ h => .inl h))
    have HF2 : Hid (Kp V w (w.setCell ⟨gP, n, none⟩ (.string x))) := p2.mono (fun b _ e => by have e' : b = gP := e; rw [e']; exact H.gg.2.1)
    rw [hN0] at hv
    subst hv
    obtain ⟨ln, HL⟩ : ∃ ln, Hid (P.length = ln) := ⟨_, rfl⟩
    rw [HL.out] at c2 hni
    clear H p1 p2 d2 d3 d5 d6 hvk
    go_enter Tryz.func54, Tryz.ntmps54
    go_wp2
    go_end0
    exact ⟨rfl, HF1.out, HF2.out⟩
  · obtain ⟨kk, HKK⟩ : ∃ kk, Hid (NL.length - 1 = kk) := ⟨_, rfl⟩
    have hk : kk < NL.length := by have := HKK.out; omega
    have hkv' : kk < vs.length := by omega
    obtain ⟨gV, hna, _, hcv⟩ := hvk kk hkv'
    subst hna
    subst hv
    have hlast : lastC NL = NL[kk] := by
      unfold lastC
      rw [HKK.out, List.getD_eq_getElem?_getD, List.getElem?_eq_getElem hk]
      rfl
    have hOl := (d5 kk hkv' hk).1
    rw [← hlast] at hOl
    have hlm := lastC_mem hN0
    have hll := hl _ hlm
    have hna := snames_any _ (lastC NL) n _ w hOl.chs (by omega) (fun c hc => by have := hpg _ hlm c hc; omega)
    have hki : ((NL.length : Int) - 1) = (kk : Int) := by have := HKK.out; omega
    have hkl : (kk : Int) < (NL.length : Int) := by have := HKK.out; omega
    have hO2 := fun (w1 : World) (hk1 : Kp none' w w1) => app_chg w1.drew 0 (vs[kk]'hkv') (lastC NL) ⟨(n : Int), P.getD n ⟨#[]⟩⟩ (hOl.keptN (hk1.then (Kp.drew none' w1))) (by omega) (Nat.zero_le _)
    have HOA := hide hO2
    clear hO2
    have hOk := hide hOl
    obtain ⟨ua, uc, huv, _⟩ := hOl.chs
    have HPP : Hid (∀ (W : World) (V' : Nat → Prop) (M : List (List Chg)), Wm W r gP V' c P M → (∃ cN, W.cell? ⟨r, 2, none⟩ = some (.slice (some ⟨gP, 0, none⟩) P.length cN)) ∧ W.cell? ⟨gP, n, none⟩ = some (.string (P.getD n ⟨#[]⟩)) ∧ W.frozen? ⟨gP, n, none⟩ = false ∧ Wm (W.setCell ⟨gP, n, none⟩ (.string x)) r gP V' c (P.set n x) M ∧ Kp V' W (W.setCell ⟨gP, n, none⟩ (.string x))) := fun W V' M hW => by
      obtain ⟨cN', q1, _⟩ := hW.c2
      obtain ⟨g0, gf⟩ := hW.pageAt n hn
      obtain ⟨p1, p2⟩ := hW.putPage n x hn
      exact ⟨⟨cN', q1⟩, g0, gf, p1, p2.mono (fun b _ e => by have e' : b = gP := e; rw [e']; exact hW.gg.2.1)⟩
    have HNT : Hid (∀ (w2 : World) (u : Value) (l : List Chg), OwC 76 w2 0 u l → Kp (fun b => (vs[kk]'hkv').ownBlock = some b) w w2 → (∀ b, u.ownBlock = some b → (vs[kk]'hkv').ownBlock = some b ∨ w.heap.size ≤ b) → Wm (w2.setCell ⟨gV, kk, none⟩ u) r gP (fun b => V b ∨ w.heap.size ≤ b) c P (NL.set kk l) ∧ Kp V w (w2.setCell ⟨gV, kk, none⟩ u)) := fun w2 u l a1 a2 a3 => H.putNote d1 d2 d3 d4 d5 d6 kk hkv' a1 a2 a3
    have hvb : ¬ (vs[kk]'hkv').ownBlock = some r ∧ ¬ (vs[kk]'hkv').ownBlock = some gV := by
      have h5 := (d5 kk hkv' (by omega)).2
      exact ⟨fun e => (h5 r e).2.1 rfl, fun e => (h5 gV e).2.2.2 rfl⟩
    have hvp : ¬ (vs[kk]'hkv').ownBlock = some gP := fun e => (((d5 kk hkv' (by omega)).2 gP e).2.2.1) rfl
    have hgr : ¬ only gV r ∧ ¬ only gV gP := ⟨fun e => (d3 gV rfl).2.1 (Eq.symm e), fun e => (d3 gV rfl).2.2 (Eq.symm e)⟩
    have hgf := (d2.cellAt kk hkv').2
    have hrV := H.gg
    have hrf := H.lt
    have hgVlt : gV < w.heap.size := (d2.lt gV rfl).2
    have HH := hide H
    obtain ⟨pn, HPN⟩ : ∃ pn, Hid (P.getD n ⟨#[]⟩ = pn) := ⟨_, rfl⟩
    have hpc := (H.pageAt n hn).1
    have HSZ : Hid (NL.length - 1 = kk) := HKK
    rw [HPN.out] at HOA HPP hpc
    have HCH : Hid (chgN P NL n = if namesB (lastC NL) n then NL else NL.set kk (lastC NL ++ [⟨(n : Int), pn⟩])) := by
      show _ = _
      unfold chgN
      rw [if_neg hN0, HKK.out, HPN.out]
    obtain ⟨ln, HL⟩ : ∃ ln, Hid (P.length = ln) := ⟨_, rfl⟩
    obtain ⟨nl, HNL⟩ : ∃ nl, Hid (NL.length = nl) := ⟨_, rfl⟩
    rw [HL.out] at c2 hni HPP
    rw [HNL.out] at d1 hki hkl
    obtain ⟨lc, HLC⟩ : ∃ lc, Hid (lastC NL = lc) := ⟨_, rfl⟩
    rw [HLC.out] at hna HOA huv HCH hOk
    obtain ⟨vk, HVK⟩ : ∃ vk, Hid (vs[kk]'hkv' = vk) := ⟨_, hide rfl⟩
    rw [HVK.out] at hna HOA huv hcv HNT hvb hvp
    have hnl : 0 ≤ (nl : Int) - 1 ∧ (nl : Int) - 1 < 1000000 := by have := HNL.out; omega
    clear H d2 d3 d5 d6 hvk hOl hlm hll hlast hOk
    rw [HCH.out]
    cases hnm : namesB lc n with
    | true =>
      rw [hnm] at hna
      have HW1 : Hid (∀ w1, Kp none' w w1 → Wm w1 r gP (fun b => V b ∨ w.heap.size ≤ b) c P NL) := fun w1 h => (HH.out.keptN h).mono (fun _ _ h => .inl h)
      subst huv
      go_enter Tryz.func54, Tryz.ntmps54
      go_upto_region 3 with (first
        | (go_at_call 73; refine hna.mono ?_; rintro e w1 ⟨rfl, hk1⟩)
        | fail)
      obtain ⟨⟨cN', q1⟩, q2, q3, q4, q5⟩ := HPP.out w1 _ _ (HW1.out w1 hk1)
      have HQ4 := hide q4
      have HQ5 : Hid (Kp V w (w1.setCell ⟨gP, n, none⟩ (.string x))) := hk1.trans q5 (fun _ _ h => h.elim) (fun b hb h => by rcases h with h | h; exact h; omega)
      clear q4 q5
      go_wp2
      go_end0
      exact ⟨rfl, HQ4.out, HQ5.out⟩
    | false =>
      rw [hnm] at hna
      subst huv
      go_enter Tryz.func54, Tryz.ntmps54
      go_upto_region 2 with (first
        | (go_at_call 73; refine hna.mono ?_; rintro e w1 ⟨rfl, hk1⟩)
        | fail)
      obtain ⟨v2, w2, hap, hO2, hk2, hv2⟩ := HOA.out w1 hk1
      have k1d : Kp none' w w1.drew := hk1.then (Kp.drew none' w1)
      have ka := Kp.alloc none' w1.drew (.cells #[.int .i64 (n : Int), .string pn] 76)
      have kwa := k1d.then ka
      have kw2 := k1d.nThen hk2
      have a3 := k1d.cell d1 (fun h => h)
      have a2 := k1d.cell c2 (fun h => h)
      have ap := k1d.cell hpc (fun h => h)
      have av := k1d.cell hcv (fun h => h)
      have b3 := kwa.cell d1 (fun h => h)
      have b2 := kwa.cell c2 (fun h => h)
      have bp := kwa.cell hpc (fun h => h)
      have f3 := (hk1.then (Kp.alloc none' w1 (.cells #[.int .i64 (n : Int), .string pn] 76))).cell d1 (fun h => h)
      have fv := (hk1.then (Kp.alloc none' w1 (.cells #[.int .i64 (n : Int), .string pn] 76))).cell hcv (fun h => h)
      have e3 := kw2.cell d1 hvb.1
      have e2 := kw2.cell c2 hvb.1
      have ep := kw2.cell hpc hvp
      have ev := kw2.cell hcv hvb.2
      have ef : w2.frozen? ⟨gV, kk, none⟩ = false := by rw [kw2.frozen hgVlt hvb.2]; exact hgf
      obtain ⟨m1, m2⟩ := HNT.out w2 v2 _ hO2 kw2 (fun b hb => by
        rcases hv2 b hb with h | h
        · exact .inl h
        · exact .inr (by have := hk1.size; have e : w1.drew.heap.size = w1.heap.size := rfl; omega))
      obtain ⟨⟨cN', q1⟩, q2, q3, q4, q5⟩ := HPP.out _ _ _ m1
      have s3 : (w2.setCell ⟨gV, kk, none⟩ v2).cell? ⟨r, 3, none⟩ = some (.slice (some ⟨gV, 0, none⟩) nl nc) := (Put.set w2 gV kk v2 _ ev).kp.cell e3 hgr.1
      have s2 : (w2.setCell ⟨gV, kk, none⟩ v2).cell? ⟨r, 2, none⟩ = some (.slice (some ⟨gP, 0, none⟩) ln cN) := (Put.set w2 gV kk v2 _ ev).kp.cell e2 hgr.1
      have sp : (w2.setCell ⟨gV, kk, none⟩ v2).cell? ⟨gP, n, none⟩ = some (.string pn) := (Put.set w2 gV kk v2 _ ev).kp.cell ep hgr.2
      have hv2s := (hO2.chs).shape
      obtain ⟨va2, vc2, hv2e⟩ := hv2s
      obtain ⟨L2, HL2⟩ : ∃ L2, Hid ((lc ++ [(⟨(n : Int), pn⟩ : Chg)]).length = L2) := ⟨_, rfl⟩
      rw [HL2.out] at hv2e
      subst hv2e
      have HQ4 := hide q4
      have HQ5 : Hid (Kp V w ((w2.setCell ⟨gV, kk, none⟩ (.slice va2 L2 vc2)).setCell ⟨gP, n, none⟩ (.string x))) := m2.trans q5 (fun _ _ h => h) (fun b hb h => by rcases h with h | h; exact h; omega)
      clear q4 q5 m1 m2 hO2 hk2 hv2 kw2 kwa ka
      refine wp_region_held_drew (S := fun W => W.cell? ⟨r, 3, none⟩ = some (.slice (some ⟨gV, 0, none⟩) nl nc) ∧ W.cell? ⟨r, 2, none⟩ = some (.slice (some ⟨gP, 0, none⟩) ln cN) ∧ W.cell? ⟨gP, n, none⟩ = some (.string pn)) (by kernel_rfl) ⟨a3, a2, ap⟩ (fun hHeld => ?_)
      refine take_at (i := 0) (d := 27) (v := ?_) rfl rfl (by kernel_rfl) (by kernel_rfl) (by kernel_rfl) (fun _ _ _ h => h) (Or.inl ⟨by rfl, ?_⟩) (by assumption) ?_
      rotate_left
      · intro W hSW
        try dsimp only at hSW
        go_simp
        try with_reducible rfl
      simp only [Act.put, List.setIfInBounds_toArray, List.set_cons_zero, List.set_cons_succ]
      refine take_at (i := 1) (d := 28) (v := ?_) rfl rfl (by kernel_rfl) (by kernel_rfl) (by kernel_rfl) (fun _ _ _ h => h) (Or.inl ⟨by rfl, ?_⟩) (by assumption) ?_
      rotate_left
      · intro W hSW
        try dsimp only at hSW
        go_simp
        try with_reducible rfl
      simp only [Act.put, List.setIfInBounds_toArray, List.set_cons_zero, List.set_cons_succ]
      refine take_at (i := 2) (d := 29) (v := ?_) rfl rfl (by kernel_rfl) (by kernel_rfl) (by kernel_rfl) (fun _ _ _ h => h) (Or.inl ⟨by rfl, ?_⟩) (by assumption) ?_
      rotate_left
      · intro W hSW
        try dsimp only at hSW
        go_simp
        try with_reducible rfl
      simp only [Act.put, List.setIfInBounds_toArray, List.set_cons_zero, List.set_cons_succ]
      refine take_at (i := 3) (d := 30) (v := ?_) rfl rfl (by kernel_rfl) (by kernel_rfl) (by kernel_rfl) (fun _ _ _ h => h) (Or.inl ⟨by rfl, ?_⟩) (by assumption) ?_
      rotate_left
      · intro W hSW
        try dsimp only at hSW
        go_simp
        try with_reducible rfl
      simp only [Act.put, List.setIfInBounds_toArray, List.set_cons_zero, List.set_cons_succ]
      refine take_at (i := 4) (d := 31) (v := ?_) rfl rfl (by kernel_rfl) (by kernel_rfl) (by kernel_rfl) (fun _ _ _ h => h) (Or.inl ⟨by rfl, ?_⟩) (by assumption) ?_
      rotate_left
      · intro W hSW
        try dsimp only at hSW
        go_simp
        try with_reducible rfl
      simp only [Act.put, List.setIfInBounds_toArray, List.set_cons_zero, List.set_cons_succ]
      refine take_at (i := 5) (d := 32) (v := ?_) rfl rfl (by kernel_rfl) (by kernel_rfl) (by kernel_rfl) (fun _ _ _ h => h) (Or.inl ⟨by rfl, ?_⟩) (by assumption) ?_
      rotate_left
      · intro W hSW
        try dsimp only at hSW
        go_simp
        try with_reducible rfl
      simp only [Act.put, List.setIfInBounds_toArray, List.set_cons_zero, List.set_cons_succ]
      refine take_at (i := 6) (d := 33) (v := ?_) rfl rfl (by kernel_rfl) (by kernel_rfl) (by kernel_rfl) (fun _ _ _ h => h) (Or.inl ⟨by rfl, ?_⟩) (by assumption) ?_
      rotate_left
      · intro W hSW
        try dsimp only at hSW
        go_simp
        try with_reducible rfl
      simp only [Act.put, List.setIfInBounds_toArray, List.set_cons_zero, List.set_cons_succ]
      refine take_at (i := 7) (d := 34) (v := ?_) rfl rfl (by kernel_rfl) (by kernel_rfl) (by kernel_rfl) (fun _ _ _ h => h) (Or.inl ⟨by rfl, ?_⟩) (by assumption) ?_
      rotate_left
      · intro W hSW
        try dsimp only at hSW
        go_simp
        try with_reducible rfl
      simp only [Act.put, List.setIfInBounds_toArray, List.set_cons_zero, List.set_cons_succ]
      refine take_at (i := 8) (d := 35) (v := ?_) rfl rfl (by kernel_rfl) (by kernel_rfl) (by kernel_rfl) (fun _ _ _ h => h) (Or.inl ⟨by rfl, ?_⟩) (by assumption) ?_
      rotate_left
      · intro W hSW
        try dsimp only at hSW
        go_simp
        try with_reducible rfl
      simp only [Act.put, List.setIfInBounds_toArray, List.set_cons_zero, List.set_cons_succ]
      refine take_at (i := 9) (d := 36) (v := ?_) rfl rfl (by kernel_rfl) (by kernel_rfl) (by kernel_rfl) (fun _ _ _ h => h) (Or.inl ⟨by rfl, ?_⟩) (by assumption) ?_
      rotate_left
      · intro W hSW
        try dsimp only at hSW
        go_simp
        try with_reducible rfl
      simp only [Act.put, List.setIfInBounds_toArray, List.set_cons_zero, List.set_cons_succ]
      refine take_at (i := 10) (d := 37) (v := ?_) rfl rfl (by kernel_rfl) (by kernel_rfl) (by kernel_rfl) (fun _ _ _ h => h) (Or.inl ⟨by rfl, ?_⟩) (by assumption) ?_
      rotate_left
      · intro W hSW
        try dsimp only at hSW
        go_simp
        try with_reducible rfl
      simp only [Act.put, List.setIfInBounds_toArray, List.set_cons_zero, List.set_cons_succ]
      refine take_at (i := 12) (d := 39) (v := ?_) rfl rfl (by kernel_rfl) (by kernel_rfl) (by kernel_rfl) (fun _ _ _ h => h) (Or.inl ⟨by rfl, ?_⟩) (by assumption) ?_
      rotate_left
      · intro W hSW
        try dsimp only at hSW
        go_simp
        try with_reducible rfl
      simp only [Act.put, List.setIfInBounds_toArray, List.set_cons_zero, List.set_cons_succ]
      refine take_at (i := 13) (d := 40) (v := ?_) rfl rfl (by kernel_rfl) (by kernel_rfl) (by kernel_rfl) (fun _ _ _ h => h) (Or.inl ⟨by rfl, ?_⟩) (by assumption) ?_
      rotate_left
      · intro W hSW
        try dsimp only at hSW
        go_simp
        try with_reducible rfl
      simp only [Act.put, List.setIfInBounds_toArray, List.set_cons_zero, List.set_cons_succ]
      refine take_at (i := 14) (d := 41) (v := ?_) rfl rfl (by kernel_rfl) (by kernel_rfl) (by kernel_rfl) (fun _ _ _ h => h) (Or.inl ⟨by rfl, ?_⟩) (by assumption) ?_
      rotate_left
      · intro W hSW
        try dsimp only at hSW
        go_simp
        try with_reducible rfl
      simp only [Act.put, List.setIfInBounds_toArray, List.set_cons_zero, List.set_cons_succ]
      refine take_at (i := 15) (d := 42) (v := ?_) rfl rfl (by kernel_rfl) (by kernel_rfl) (by kernel_rfl) (fun _ _ _ h => h) (Or.inl ⟨by rfl, ?_⟩) (by assumption) ?_
      rotate_left
      · intro W hSW
        try dsimp only at hSW
        go_simp
        try with_reducible rfl
      simp only [Act.put, List.setIfInBounds_toArray, List.set_cons_zero, List.set_cons_succ]
      refine take_at (i := 16) (d := 43) (v := ?_) rfl rfl (by kernel_rfl) (by kernel_rfl) (by kernel_rfl) (fun _ _ _ h => h) (Or.inl ⟨by rfl, ?_⟩) (by assumption) ?_
      rotate_left
      · intro W hSW
        try dsimp only at hSW
        go_simp
        try with_reducible rfl
      simp only [Act.put, List.setIfInBounds_toArray, List.set_cons_zero, List.set_cons_succ]
      refine take_at (i := 17) (d := 44) (v := ?_) rfl rfl (by kernel_rfl) (by kernel_rfl) (by kernel_rfl) (fun _ _ _ h => h) (Or.inl ⟨by rfl, ?_⟩) (by assumption) ?_
      rotate_left
      · intro W hSW
        try dsimp only at hSW
        go_simp
        try with_reducible rfl
      simp only [Act.put, List.setIfInBounds_toArray, List.set_cons_zero, List.set_cons_succ]
      refine take_at (i := 18) (d := 45) (v := ?_) rfl rfl (by kernel_rfl) (by kernel_rfl) (by kernel_rfl) (fun _ _ _ h => h) (Or.inl ⟨by rfl, ?_⟩) (by assumption) ?_
      rotate_left
      · intro W hSW
        try dsimp only at hSW
        go_simp
        try with_reducible rfl
      simp only [Act.put, List.setIfInBounds_toArray, List.set_cons_zero, List.set_cons_succ]
      refine take_at (i := 19) (d := 46) (v := ?_) rfl rfl (by kernel_rfl) (by kernel_rfl) (by kernel_rfl) (fun _ _ _ h => h) (Or.inl ⟨by rfl, ?_⟩) (by assumption) ?_
      rotate_left
      · intro W hSW
        try dsimp only at hSW
        go_simp
        try with_reducible rfl
      simp only [Act.put, List.setIfInBounds_toArray, List.set_cons_zero, List.set_cons_succ]
      refine take_at (i := 20) (d := 47) (v := ?_) rfl rfl (by kernel_rfl) (by kernel_rfl) (by kernel_rfl) (fun _ _ _ h => h) (Or.inl ⟨by rfl, ?_⟩) (by assumption) ?_
      rotate_left
      · intro W hSW
        try dsimp only at hSW
        go_simp
        try with_reducible rfl
      simp only [Act.put, List.setIfInBounds_toArray, List.set_cons_zero, List.set_cons_succ]
      refine wpAnyH_ready (rs := [11, 21]) (by kernel_rfl) (by simp) ?_
      refine AllReadyH.cons rfl (fun K hK => ?_) (AllReadyH.cons rfl (fun K hK => ?_) AllReadyH.nil)
      · go_simp
        refine hK.out _ _ ⟨a3, a2, ap⟩ (fun hHeld => ?_)
        clear hK K
        refine wpAnyH_ready (rs := [21]) (by kernel_rfl) (by simp) ?_
        refine AllReadyH.cons rfl (fun K hK => ?_) AllReadyH.nil
        go_simp
        refine hK.out _ _ (⟨b3, b2, bp⟩) (fun hHeld => ?_)
        clear hK K
        refine wpAnyH_ready (rs := [22]) (by kernel_rfl) (by simp) ?_
        refine AllReadyH.cons rfl (fun K hK => ?_) AllReadyH.nil
        refine rpstep_app_d (d := 49) (by rfl) (by rfl) (.tmp 38) (.tmp 48) 73 73 (by rfl) _ _ (by rfl) (by rfl) hap ?_
        refine hK.out _ _ ⟨e3, e2, ep⟩ (fun hHeld => ?_)
        clear hK K
        simp only [Act.put, List.setIfInBounds_toArray, List.set_cons_zero, List.set_cons_succ]
        refine take_at (i := 23) (d := 50) (v := ?_) rfl rfl (by kernel_rfl) (by kernel_rfl) (by kernel_rfl) (fun _ _ _ h => h) (Or.inl ⟨by rfl, ?_⟩) (by assumption) ?_
        rotate_left
        · intro W hSW
          try dsimp only at hSW
          go_simp
          try with_reducible rfl
        simp only [Act.put, List.setIfInBounds_toArray, List.set_cons_zero, List.set_cons_succ]
        refine wpAnyH_ready (rs := [24]) (by kernel_rfl) (by simp) ?_
        refine AllReadyH.cons rfl (fun K hK => ?_) AllReadyH.nil
        go_simp
        refine hK.out _ _ ⟨s3, s2, sp⟩ (fun hHeld => ?_)
        clear hK K
        refine wpAnyH_done (by kernel_rfl) ?_ _
        go_wp2
        go_end0
        exact ⟨rfl, HQ4.out, HQ5.out⟩
      · go_simp
        refine hK.out _ _ ⟨b3, b2, bp⟩ (fun hHeld => ?_)
        clear hK K
        refine wpAnyH_ready (rs := [11]) (by kernel_rfl) (by simp) ?_
        refine AllReadyH.cons rfl (fun K hK => ?_) AllReadyH.nil
        go_simp
        refine hK.out _ _ (⟨b3, b2, bp⟩) (fun hHeld => ?_)
        clear hK K
        refine wpAnyH_ready (rs := [22]) (by kernel_rfl) (by simp) ?_
        refine AllReadyH.cons rfl (fun K hK => ?_) AllReadyH.nil
        refine rpstep_app_d (d := 49) (by rfl) (by rfl) (.tmp 38) (.tmp 48) 73 73 (by rfl) _ _ (by rfl) (by rfl) hap ?_
        refine hK.out _ _ ⟨e3, e2, ep⟩ (fun hHeld => ?_)
        clear hK K
        simp only [Act.put, List.setIfInBounds_toArray, List.set_cons_zero, List.set_cons_succ]
        refine take_at (i := 23) (d := 50) (v := ?_) rfl rfl (by kernel_rfl) (by kernel_rfl) (by kernel_rfl) (fun _ _ _ h => h) (Or.inl ⟨by rfl, ?_⟩) (by assumption) ?_
        rotate_left
        · intro W hSW
          try dsimp only at hSW
          go_simp
          try with_reducible rfl
        simp only [Act.put, List.setIfInBounds_toArray, List.set_cons_zero, List.set_cons_succ]
        refine wpAnyH_ready (rs := [24]) (by kernel_rfl) (by simp) ?_
        refine AllReadyH.cons rfl (fun K hK => ?_) AllReadyH.nil
        go_simp
        refine hK.out _ _ ⟨s3, s2, sp⟩ (fun hHeld => ?_)
        clear hK K
        refine wpAnyH_done (by kernel_rfl) ?_ _
        go_wp2
        go_end0
        exact ⟨rfl, HQ4.out, HQ5.out⟩

end Go.Proofs.YtmnedhlgplkfhaaGreat
