/- What a cache keeps behind reads, told plainly; a cache's Read by it; the laws' lives and fill. Conditions: those that each theorem states. Contract, over the turned program: a cache's Commit. Conditions: those that each theorem states. Contracts, over the turned program: the laws' fill; a commit of one page. Conditions: those that each theorem states. -/
import Derived.Test.YtmnedhlgplkfhaaGreatJK2
namespace Go.Proofs.YtmnedhlgplkfhaaGreat
open Go.RowKit
open Go.ChangeMaps (setBlock)
set_option linter.unusedVariables false

/-- Which pages are kept, how many hits and misses there were. -/
structure St where
  K : List Int
  h : Nat
  m : Nat
/-- There is such a page. -/
def inR (n : Nat) (z : Int) : Bool := decide (0 ≤ z ∧ z < (n : Int))
theorem inR_iff {n : Nat} {z : Int} : inR n z = true ↔ 0 ≤ z ∧ z < (n : Int) := by simp [inR]
def St.use (sz n : Nat) (s : St) (z : Int) : St := if inR n z then (if z ∈ s.K then ⟨Go.Proofs.YtmnedhlgplkfhaaGreat.use sz s.K z, s.h + 1, s.m⟩ else ⟨Go.Proofs.YtmnedhlgplkfhaaGreat.use sz s.K z, s.h, s.m + 1⟩) else s
def St.run (sz n : Nat) (l : List Int) : St := l.foldl (St.use sz n) ⟨[], 0, 0⟩
theorem St.run_snoc (sz n : Nat) (l : List Int) (z : Int) : St.run sz n (l ++ [z]) = (St.run sz n l).use sz n z := by simp [St.run]
theorem St.sum {sz n : Nat} (s : St) (z : Int) : (s.use sz n z).h + (s.use sz n z).m = s.h + s.m + (if inR n z then 1 else 0) := by
  unfold St.use
  by_cases h : inR n z = true
  · rw [if_pos h, if_pos h]
    split <;> (dsimp only; omega)
  · rw [if_neg h, if_neg h]
    omega
theorem St.lim (sz n : Nat) (l : List Int) : (St.run sz n l).h + (St.run sz n l).m ≤ l.length := by
  suffices ∀ (l : List Int) (s : St), (l.foldl (St.use sz n) s).h + (l.foldl (St.use sz n) s).m ≤ s.h + s.m + l.length by
    have := this l ⟨[], 0, 0⟩
    simpa [St.run] using this
  intro l
  induction l with
  | nil => intro s; exact Nat.le_refl _
  | cons z l ih =>
    intro s
    have := ih (s.use sz n z)
    have h2 := St.sum (sz := sz) (n := n) s z
    rw [List.foldl_cons, List.length_cons]
    split at h2 <;> omega
/-- What Read tells: the bytes, the error. -/
def rdCS (n : Nat) (Q : Nat → ByteArray) (z : Int) : ByteArray := if inR n z then Q z.toNat else ⟨#[]⟩
def rdCE (n : Nat) (z : Int) : Int := if inR n z then 0 else 7
/-- A cache in the state s. -/
def Cst (w : World) (q : Cq) (F : Nat → Prop) (D : Dv) (Q : Nat → ByteArray) (M cm : Int) (s : St) : Prop := Cas w q F D Q M cm s.K (s.h : Int) (s.m : Int)
theorem cread_any {w : World} {q : Cq} {F : Nat → Prop} {D : Dv} {Q : Nat → ByteArray} {M cm : Int} {s : St} (H : Cst w q F D Q M cm s) (hb : s.h + s.m ≤ 1000000000) (z : Int) :
    Calls Tryz.prog 19 #[.pointer (some ⟨q.c, 0, none⟩), .int .i64 z] w fun e w' => e = .returned (.tuple #[.string (rdCS q.n Q z), .int .i64 (rdCE q.n z)]) ∧ Cst w' q (fun j => F j ∨ w.heap.size ≤ j) D Q M cm (s.use q.sz q.n z) ∧ Kp F w w' := by
  by_cases hz : inR q.n z = true
  · have hz' := inR_iff.1 hz
    unfold rdCS rdCE St.use
    rw [if_pos hz, if_pos hz, if_pos hz]
    by_cases hk : z ∈ s.K
    · rw [if_pos hk]
      refine (cread_hit H (by omega) (by omega) z hk).mono ?_
      rintro e w' ⟨_, rfl, h1, h2⟩
      refine ⟨rfl, ?_, h2⟩
      exact Cas.mono h1 (fun k _ h => .inl h)
    · rw [if_neg hk]
      obtain ⟨k, rfl⟩ : ∃ k : Nat, z = (k : Int) := ⟨z.toNat, by omega⟩
      refine (cread_miss H (by omega) (by omega) k (by omega) hk).mono ?_
      rintro e w' ⟨rfl, h1, h2⟩
      exact ⟨rfl, h1, h2⟩
  · unfold rdCS rdCE St.use
    rw [if_neg hz, if_neg hz, if_neg hz]
    refine (cread_bad H z (fun h => hz (inR_iff.2 h))).mono ?_
    rintro e w' ⟨rfl, rfl⟩
    exact ⟨rfl, Cas.mono H (fun k _ h => .inl h), Kp.refl _ _⟩
theorem lives_end : St.run 2 4 [1, 2, 1, 3, 1] = ⟨[1, 3], 2, 3⟩ := by kernel_rfl
theorem new_ints (w : World) (l : List Int) (t : TypeId) (hl : l.length ≤ 1000) : Sl (Value.int .i64) (w.heap.size + 1) (w.alloc (.cells (l.map (Value.int .i64)).toArray t)) (.slice (some ⟨w.heap.size, 0, none⟩) l.length l.length) l := by
  refine ⟨some ⟨w.heap.size, 0, none⟩, l.length, rfl, Nat.le_refl _, by unfold maxLen; omega, fun i hi => ⟨w.heap.size, 0, rfl, Nat.lt_succ_self _, ?_⟩⟩
  rw [Nat.zero_add]
  exact new_cell _ _ _ _ _ (by simp [hi])
end Go.Proofs.YtmnedhlgplkfhaaGreat

namespace Go.Proofs.YtmnedhlgplkfhaaGreat
open Go.RowKit
open Go.ChangeMaps (setBlock)
set_option linter.unusedVariables false

set_option maxRecDepth 100000 in
set_option maxHeartbeats 400000 in
theorem ccommit_nil (v : Value) (w : World) : Calls Tryz.prog 56 #[.pointer none, v] w fun e w' => e = .returned (.int .i64 1) ∧ w' = w := by
  have hop := copen_nil w
  go_enter Tryz.func56, Tryz.ntmps56
  go_wp2_with (first
    | (go_at_call 47; refine hop.mono ?_; rintro e w' ⟨rfl, rfl⟩)
    | fail)
  go_ret
  exact ⟨rfl, rfl⟩
theorem RM.putD {w w' : World} {B : List Nat} {N : Nat → Int} {D : Nat → ByteArray} {ah be : Nat → Nat} (h : RM w B N D ah be) {a : Nat} {d : ByteArray} (hp : Put w w' a 1 (.string d)) : RM w' B N (updF' D a d) ah be := fun x hx => by
  have q := h x hx
  refine ⟨by rw [hp.old _ _ (.inr (by omega))]; exact q.c0, ?_, by rw [hp.old _ _ (.inr (by omega))]; exact q.c2, by rw [hp.old _ _ (.inr (by omega))]; exact q.c3, fun j => by rw [hp.fr]; exact q.fr j, hp.bl _ q.bl⟩
  by_cases e : x = a
  · subst e; simp only [updF', if_true]; exact hp.same
  · simp only [updF', e, if_false]; rw [hp.old _ _ (.inl e)]; exact q.c1
theorem withC_snoc (Q : Nat → ByteArray) (l : List Chg) (c : Chg) (p : Nat) : withC Q (l ++ [c]) p = if (p : Int) = c.page then c.data else withC Q l p := by simp [withC, List.foldl_append]
theorem nodup_inj {L : List Nat} {N : Nat → Int} (h : (L.map N).Nodup) {x y : Nat} (hx : x ∈ L) (hy : y ∈ L) (he : N x = N y) : x = y := by
  unfold List.Nodup at h
  rw [List.pairwise_map] at h
  induction L with
  | nil => cases hx
  | cons a L ih =>
    obtain ⟨h1, h2⟩ := List.pairwise_cons.1 h
    rcases List.mem_cons.1 hx with ex | hx'
    · rcases List.mem_cons.1 hy with ey | hy'
      · rw [ex, ey]
      · exact absurd (by rw [← ex]; exact he) (h1 y hy')
    · rcases List.mem_cons.1 hy with ey | hy'
      · exact absurd (by rw [← ey]; exact he.symm) (h1 x hx')
      · exact ih h2 hx' hy'
theorem rightE_one (n : Nat) (x : Chg) : rightE n [x] = if inR n x.page then 0 else 7 := by
  unfold rightE allB
  by_cases h : inR n x.page = true
  · have : hasB n x.page = true := by have := inR_iff.1 h; simp [hasB]; omega
    simp [h, this]
  · have : hasB n x.page = false := by
      cases hb : hasB n x.page with
      | false => rfl
      | true => exact absurd (inR_iff.2 (by simp [hasB] at hb; omega)) h
    simp [h, this]
set_option maxRecDepth 100000 in
set_option maxHeartbeats 800000 in
theorem ccommit_no {w : World} {q : Cq} {F : Nat → Prop} {D : Dv} {Q : Nat → ByteArray} {M cm : Int} {K : List Int} {h mi : Int} {v : Value} {l : List Chg} (H : Cas w q F D Q M cm K h mi) (hM : M ≤ 900000) (hS : Chs (fun k => ¬ F k) w v l) (hd : ∀ c ∈ l, c.data.size = 256) (hi : i64s (l.map Chg.page)) (h0 : 0 ≤ cm) (h1 : cm ≤ 1000000) (hE : rightE q.n l ≠ 0) :
    Calls Tryz.prog 56 #[.pointer (some ⟨q.c, 0, none⟩), v] w fun e w' => ∃ D', e = .returned (.int .i64 (rightE q.n l)) ∧ Cas w' q F D' Q (M + 300) cm K h mi ∧ Kp F w w' := by
  obtain ⟨L, N, T, HA, rfl, hl, hF⟩ := H
  obtain ⟨a, cc, rfl, hlc, hcm', hcells⟩ := hS
  have hSS : Chs (fun k => ¬ F k) w (.slice a l.length cc) l := ⟨a, cc, rfl, hlc, hcm', hcells⟩
  have hop := copen_any q.c q.g w HA.cc.c0
  have hcu := catchUp_any q.c q.g cm w HA.cc.c0 HA.cc.c6 HA.hP.c2
  have HCO : Hid (∀ W : World, Kp none' w W → Calls Tryz.prog 75 #[.pointer (some ⟨q.g, 0, none⟩), .slice a l.length cc] W fun e w' => ∃ D' c', e = .returned (.int .i64 (rightE q.n l)) ∧ Rest w' q.p D' q.n (if rightE q.n l = 0 then withC Q l else Q) (M + 300) ∧ D'.st = false ∧ Pag w' q.g q.p q.n c' (.slice none 0 0) [] ∧ Kp (fun k => q.p.mem k ∨ k = q.g) W w' ∧ D'.c = D.c + (if rightE q.n l = 0 then (callsN l.length : Int) else 0) ∧ c' = cm + (if rightE q.n l = 0 ∧ l ≠ [] then 1 else 0)) := fun W hW =>
    rest_commit_any ((HA.keptN hW).hR) HA.st hM HA.n2 HA.hQ ((HA.keptN hW).hP) ((hSS.keptN hW).mono (fun k _ hk hm => hk (hF k (.inl hm)))) hd hi h0 h1
  obtain ⟨E, HE⟩ : ∃ E, Hid (rightE q.n l = E) := ⟨_, rfl⟩
  have hE' : E ≠ 0 := by rw [← HE.out]; exact hE
  have hEn : (E != 0) = true := by simpa using hE'
  rw [HE.out] at HCO ⊢
  have c0 : ∀ W : World, Kp none' w W → W.cell? ⟨q.c, 0, none⟩ = some (.pointer (some ⟨q.g, 0, none⟩)) := fun W hW => hW.cell HA.cc.c0 (fun h => h)
  have HA' := hide HA
  clear HA hcells hSS hE
  go_enter Tryz.func56, Tryz.ntmps56
  go_wp2_with (first
    | (go_at_call 47; refine hop.mono ?_; rintro e w' ⟨rfl, rfl⟩)
    | (go_at_call 65; refine hcu.mono ?_; rintro e w1 ⟨rfl, hk1⟩; have d0 := c0 _ hk1)
    | (go_at_call 75; refine (HCO.out w1 hk1).mono ?_; rintro e w2 ⟨D', c', rfl, hR2, hst2, hP2, hk2, _, hc2⟩)
    | fail)
  go_ret
  rw [if_neg hE'] at hR2
  rw [if_neg (fun h => hE' h.1), Int.add_zero] at hc2
  rw [hc2] at hP2
  have A1 := HA'.out.keptN hk1
  have hne : ∀ k, q.foot L k → ¬ (q.p.mem k ∨ k = q.g) → ¬ (fun k => q.p.mem k ∨ k = q.g) k := fun k _ h => h
  have hap : ∀ k, k = q.c ∨ k = q.m ∨ k ∈ q.s :: L → ¬ (q.p.mem k ∨ k = q.g) := fun k hk hm => by
    have := A1.apart k hm
    rcases hk with e | e | e
    · exact this.1 e
    · exact this.2.1 e
    · exact this.2.2 e
  obtain ⟨ah, be, hr⟩ := A1.rg
  refine ⟨D', rfl, ⟨L, N, T, ⟨hR2, hst2, hP2, A1.cc.kept hk2 (hap _ (.inl rfl)), ⟨ah, be, hr.kept hk2 (fun x hx => hap x (.inr (.inr hx)))⟩, A1.mc.kept hk2 (hap _ (.inr (.inl rfl))), A1.nd, A1.da, A1.s1, A1.s2, A1.s3, A1.s4, A1.n2, A1.hQ, A1.sm⟩, rfl, hl, hF⟩, ?_⟩
  exact hk1.trans hk2 (fun _ _ h => h.elim) (fun k _ h => by
    rcases h with h | h
    · exact hF k (.inl h)
    · exact hF k (.inr (.inl h)))
/-- A cache while a commit's changes are brought into what it keeps: j of them. -/
structure Mid (w wr : World) (q : Cq) (F : Nat → Prop) (D : Dv) (Q : Nat → ByteArray) (M cm c' : Int) (l : List Chg) (j : Nat) (L : List Nat) (N : Nat → Int) (h mi : Int) : Prop where
  hR : Rest wr q.p D q.n (withC Q l) M
  hP : Pag wr q.g q.p q.n c' (.slice none 0 0) []
  cc : Cc wr q h mi cm
  mc : Mc wr q.m L N
  rg : ∃ T ah be, Ring wr q.s L N T ah be ∧ ∀ x ∈ L, T x = withC Q (l.take j) (N x).toNat
  kp : Kp F w wr
set_option maxRecDepth 100000 in
set_option maxHeartbeats 1600000 in
theorem ccommit_ok {w : World} {q : Cq} {F : Nat → Prop} {D : Dv} {Q : Nat → ByteArray} {M cm : Int} {K : List Int} {h mi : Int} {v : Value} {l : List Chg} (H : Cas w q F D Q M cm K h mi) (hM : M ≤ 900000) (hS : Chs (fun k => ¬ F k) w v l) (hd : ∀ c ∈ l, c.data.size = 256) (hi : i64s (l.map Chg.page)) (h0 : 0 ≤ cm) (h1 : cm ≤ 1000000) (hE : rightE q.n l = 0) :
    Calls Tryz.prog 56 #[.pointer (some ⟨q.c, 0, none⟩), v] w fun e w' => ∃ D' c', e = .returned (.int .i64 0) ∧ Cas w' q F D' (withC Q l) (M + 300) c' K h mi ∧ Kp F w w' ∧ cm ≤ c' ∧ c' ≤ cm + 1 := by
  obtain ⟨L, N, T, HA, rfl, hl, hF⟩ := H
  obtain ⟨a, cc, rfl, hlc, hcm', hcells⟩ := hS
  have hSS : Chs (fun k => ¬ F k) w (.slice a l.length cc) l := ⟨a, cc, rfl, hlc, hcm', hcells⟩
  have hop := copen_any q.c q.g w HA.cc.c0
  have hcu := catchUp_any q.c q.g cm w HA.cc.c0 HA.cc.c6 HA.hP.c2
  have hok := right_ok hE hd
  have hl31 := hok.m
  have HCO : Hid (∀ W : World, Kp none' w W → Calls Tryz.prog 75 #[.pointer (some ⟨q.g, 0, none⟩), .slice a l.length cc] W fun e w' => ∃ D' c', e = .returned (.int .i64 0) ∧ Rest w' q.p D' q.n (withC Q l) (M + 300) ∧ D'.st = false ∧ Pag w' q.g q.p q.n c' (.slice none 0 0) [] ∧ Kp (fun k => q.p.mem k ∨ k = q.g) W w' ∧ cm ≤ c' ∧ c' ≤ cm + 1) := fun W hW => by
    have := rest_commit_any ((HA.keptN hW).hR) HA.st hM HA.n2 HA.hQ ((HA.keptN hW).hP) ((hSS.keptN hW).mono (fun k _ hk hm => hk (hF k (.inl hm)))) hd hi h0 h1
    rw [hE] at this
    refine this.mono ?_
    rintro e w' ⟨D', c', rfl, a1, a2, a3, a4, a5, a6⟩
    rw [if_pos rfl] at a1
    refine ⟨D', c', rfl, a1, a2, a3, a4, ?_, ?_⟩ <;> (rw [a6]; split <;> omega)
  have hQ' := withC_size HA.hQ hok
  have c0 : ∀ W : World, Kp none' w W → W.cell? ⟨q.c, 0, none⟩ = some (.pointer (some ⟨q.g, 0, none⟩)) := fun W hW => hW.cell HA.cc.c0 (fun h => h)
  have HA' := hide HA
  have HCL := hide hcells
  have HOK := hide hok
  clear HA hcells hSS hok
  go_enter Tryz.func56, Tryz.ntmps56
  go_upto_region 7 with (first
    | (go_at_call 47; refine hop.mono ?_; rintro e w' ⟨rfl, rfl⟩)
    | (go_at_call 65; refine hcu.mono ?_; rintro e w1 ⟨rfl, hk1⟩; have d0 := c0 _ hk1)
    | (go_at_call 75; refine (HCO.out w1 hk1).mono ?_; rintro e w2 ⟨D', c', rfl, hR2, hst2, hP2, hk2, hc2a, hc2b⟩)
    | fail)
  have A1 := HA'.out.keptN hk1
  have hap : ∀ k, k = q.c ∨ k = q.m ∨ k ∈ q.s :: L → ¬ (q.p.mem k ∨ k = q.g) := fun k hk hm => by
    have := A1.apart k hm
    rcases hk with e | e | e
    · exact this.1 e
    · exact this.2.1 e
    · exact this.2.2 e
  obtain ⟨ah, be, hr⟩ := A1.rg
  have hM0 : Mid w' w2 q F D' Q (M + 300) cm c' l 0 L N h mi := ⟨hR2, hP2, A1.cc.kept hk2 (hap _ (.inl rfl)), A1.mc.kept hk2 (hap _ (.inr (.inl rfl))), ⟨T, ah, be, hr.kept hk2 (fun x hx => hap x (.inr (.inr hx))), fun x hx => by
      obtain ⟨k, _, hN, hT⟩ := A1.da x hx
      rw [hT, hN]; rfl⟩, hk1.trans hk2 (fun _ _ h => h.elim) (fun k _ h => by
      rcases h with h | h
      · exact hF k (.inl h)
      · exact hF k (.inr (.inl h)))⟩
  have HM0 := hide hM0
  clear hM0 hr hR2 hP2 d0 hop hcu c0
  go_wp2
  go_loopw [26] (fun t wr => ∃ j : Nat, j ≤ l.length ∧ t = .int .i64 j ∧ Mid w' wr q F D' Q (M + 300) cm c' l j L N h mi) (fun t _ => l.length - (intOf t).toNat)
  case atStart => exact ⟨0, Nat.zero_le _, rfl, HM0.out⟩
  case round =>
    obtain ⟨j, hj, rfl, hMj⟩ := hrel
    clear HM0
    by_cases hlt : j < l.length
    · have hji : (j : Int) < (l.length : Int) := by omega
      obtain ⟨b, off, rfl, hbF, hbl, q0, q1⟩ := HCL.out j hlt
      have e0 := hMj.kp.cell q0 hbF
      have e1 := hMj.kp.cell q1 hbF
      have hv := chg_var wr l[j] 76
      have HT : Hid (l.take (j + 1) = l.take j ++ [l[j]]) := by show _ = _; rw [List.take_succ_eq_append_getElem hlt]
      obtain ⟨x, HX⟩ : ∃ x, Hid (l[j] = x) := ⟨_, hide rfl⟩
      rw [HX.out] at e0 e1 hv HT
      obtain ⟨pg, dt⟩ := x
      dsimp only at e0 e1 hv
      have k5 := Kp.alloc none' wr (.cells #[.int .i64 pg, .string dt] 76)
      have hMj' := hide hMj
      obtain ⟨es, cl, c, hm, hMi, hO⟩ := hMj.mc
      have hm5 : (wr.alloc (.cells #[.int .i64 pg, .string dt] 76)).drew.heap[q.m]? = some (.map es cl) := by
        rw [((k5.then (Kp.drew _ _)).block q.m (Array.getElem?_eq_some_iff.1 hm).1 (fun h => h))]; exact hm
      have hlk := run_lookI (t := 82) (e := 77) Tryz.underlying82 zeroLk hm5 hMi pg true
      have c3 := k5.cell hMj.cc.c3 (fun h => h)
      clear hMj
      go_upto_region 10 with fail
      obtain ⟨W5, H5⟩ : ∃ W5, Hid (wr.alloc (.cells #[.int .i64 pg, .string dt] 76) = W5) := ⟨_, rfl⟩
      rw [H5.out] at k5 hm5 hlk hv c3 ⊢
      obtain ⟨B, HB⟩ : ∃ B, Hid (wr.heap.size = B) := ⟨_, rfl⟩
      rw [HB.out] at hv ⊢
      obtain ⟨v0, v1⟩ := hv
      have K5 := k5.then (Kp.drew none' W5)
      by_cases hpg : pg ∈ L.map N
      · obtain ⟨x, hx, hNx⟩ := List.mem_map.1 hpg
        have hcx := hO.someOf hx
        rw [hNx] at hcx
        rw [hcx] at hlk
        obtain ⟨T', ah', be', hr', hT'⟩ := hMj'.out.rg
        have hr5 := hr'.kept K5 (fun _ _ h => h)
        have x1 := (hr5.rm x (List.mem_cons_of_mem _ hx)).c1
        have xf := (hr5.rm x (List.mem_cons_of_mem _ hx)).fr 1
        have p6 := Put.set W5.drew x 1 (.string dt) _ x1
        have hxF : F x := hF x (.inr (.inr (.inr (.inr (List.mem_cons_of_mem _ hx)))))
        have hxn : ∀ k, q.p.mem k ∨ k = q.g → k ≠ x := fun k hk e => (HA'.out.apart k hk).2.2 (by rw [e]; exact List.mem_cons_of_mem _ hx)
        have K6 : Kp (only x) wr (W5.drew.setCell ⟨x, 1, none⟩ (.string dt)) := K5.nThen p6.kp
        have hM6 : Mid w' (W5.drew.setCell ⟨x, 1, none⟩ (.string dt)) q F D' Q (M + 300) cm c' l (j + 1) L N h mi := by
          have hP := hMj'.out.hP
          refine ⟨hMj'.out.hR.kept K6 (fun k hk e => hxn k (.inl hk) e), ⟨K6.cell hP.c0 (fun e => hxn _ (.inr rfl) e), K6.cell hP.c1 (fun e => hxn _ (.inr rfl) e), K6.cell hP.c2 (fun e => hxn _ (.inr rfl) e), K6.cell hP.c3 (fun e => hxn _ (.inr rfl) e), fun j => by rw [K6.frozen hP.lt (fun e => hxn _ (.inr rfl) e)]; exact hP.fr j, Chs.nil _ _, hP.gp⟩,
            hMj'.out.cc.kept K6 (fun e => HA'.out.s3.2 (by rw [show q.c = x from e]; exact List.mem_cons_of_mem _ hx)), hMj'.out.mc.kept K6 (fun e => HA'.out.s4 (by rw [show q.m = x from e]; exact List.mem_cons_of_mem _ hx)),
            ⟨updF' T' x dt, ah', be', ⟨hr5.rm.putD p6, hr5.sg, hr5.nd⟩, fun y hy => ?_⟩, hMj'.out.kp.trans K6 (fun _ _ h => h) (fun k _ e => by rw [show k = x from e]; exact hxF)⟩
          obtain ⟨ky, _, hNy, _⟩ := HA'.out.da y hy
          rw [HT.out, withC_snoc]
          by_cases e : y = x
          · subst e
            simp only [updF', if_true]
            rw [if_pos (by show (((N y).toNat : Nat) : Int) = pg; rw [← hNx]; omega)]
          · simp only [updF', e, if_false]
            rw [if_neg, hT' y hy]
            intro h2
            have h3 : N y = N x := by rw [hNx, ← h2]; omega
            have hnd := HA'.out.nd
            exact e (nodup_inj hnd hy hx h3)
        have HM6 := hide hM6
        clear hM6 hr' hr5 K6 p6 hm5 hm hMi hO
        go_region
        all_goals go_wp2
        all_goals go_roundw
        all_goals first
          | exact ⟨j + 1, by omega, by go_num, HM6.out⟩
          | (simp [intOf]; omega)
      · have hcx := hO.noneOf hpg
        rw [hcx] at hlk
        obtain ⟨T', ah', be', hr', hT'⟩ := hMj'.out.rg
        have hM6 : Mid w' W5.drew q F D' Q (M + 300) cm c' l (j + 1) L N h mi := by
          refine ⟨hMj'.out.hR.keptN K5, hMj'.out.hP.keptN K5, hMj'.out.cc.kept K5 (fun h => h), hMj'.out.mc.kept K5 (fun h => h), ⟨T', ah', be', hr'.kept K5 (fun _ _ h => h), fun y hy => ?_⟩, hMj'.out.kp.thenN K5⟩
          rw [HT.out, withC_snoc, if_neg, hT' y hy]
          intro h2
          obtain ⟨ky, _, hNy, _⟩ := HA'.out.da y hy
          exact hpg (List.mem_map.2 ⟨y, hy, by have h3 : (((N y).toNat : Nat) : Int) = pg := h2; rw [← h3]; omega⟩)
        have HM6 := hide hM6
        clear hM6 hr' hm5 hm hMi hO
        go_region
        all_goals go_wp2
        all_goals go_roundw
        all_goals first
          | exact ⟨j + 1, by omega, by go_num, HM6.out⟩
          | (simp [intOf]; omega)
    · obtain rfl : j = l.length := by omega
      have c0 := hMj.cc.c0
      have c6 := hMj.cc.c6
      have f6 := hMj.cc.cf 6
      have hco := pcommits_any q.g c' wr hMj.hP.c2
      have p6 := Put.set wr q.c 6 (.int .i64 c') _ c6
      have HM := hide hMj
      clear hMj
      go_wp2_with (first
        | (go_at_call 76; refine hco.mono ?_; rintro e w' ⟨rfl, rfl⟩)
        | fail)
      go_ret
      obtain ⟨T', ah', be', hr', hT'⟩ := HM.out.rg
      rw [List.take_length] at hT'
      have hcs : ∀ k, k ≠ q.c → ¬ only q.c k := fun k h e => h e
      have hP := HM.out.hP
      have gc : ¬ only q.c q.g := fun e => HA'.out.s2.1 e
      refine ⟨D', c', rfl, ⟨L, N, T', ⟨HM.out.hR.kept p6.kp (fun k hk e => (HA'.out.s1 k hk).1 e), hst2, ⟨p6.kp.cell hP.c0 gc, p6.kp.cell hP.c1 gc, p6.kp.cell hP.c2 gc, p6.kp.cell hP.c3 gc, fun j => by rw [p6.kp.frozen hP.lt gc]; exact hP.fr j, Chs.nil _ _, hP.gp⟩, HM.out.cc.put6 p6,
        ⟨ah', be', hr'.kept p6.kp (fun x hx e => HA'.out.s3.2 (by rw [show x = q.c from e] at hx; exact hx))⟩, HM.out.mc.kept p6.kp (fun e => HA'.out.s3.1 (Eq.symm e)), HA'.out.nd, fun x hx => ?_, HA'.out.s1, HA'.out.s2, HA'.out.s3, HA'.out.s4, HA'.out.n2, hQ', HA'.out.sm⟩, rfl, hl, hF⟩, HM.out.kp.then (p6.kp.mono (fun k _ e => hF k (.inr (.inr (.inl e))))), hc2a, hc2b⟩
      obtain ⟨k, a1, a2, a3⟩ := HA'.out.da x hx
      exact ⟨k, a1, a2, by rw [hT' x hx, a2]; rfl⟩

end Go.Proofs.YtmnedhlgplkfhaaGreat

namespace Go.Proofs.YtmnedhlgplkfhaaGreat
open Go.RowKit
set_option linter.unusedVariables false

theorem commit_one {w : World} {q : Cq} {F : Nat → Prop} {D : Dv} {Q : Nat → ByteArray} {M cm : Int} {s : St} {B : Nat} {z : Int} {X : ByteArray} (H : Cst w q F D Q M cm s) (hM : M ≤ 900000) (h0 : 0 ≤ cm) (h1 : cm ≤ 1000000) (c0 : w.cell? ⟨B, 0, none⟩ = some (.int .i64 z)) (c1 : w.cell? ⟨B, 1, none⟩ = some (.string X)) (hB : ¬ F B)
    (hz : -9223372036854775808 ≤ z ∧ z < 9223372036854775808) (hX : X.size = 256) :
    Calls Tryz.prog 56 #[.pointer (some ⟨q.c, 0, none⟩), .slice (some ⟨B, 0, none⟩) 1 1] w fun e w' => ∃ D' c', e = .returned (.int .i64 (rdCE q.n z)) ∧ Cst w' q F D' (if inR q.n z then withC Q [⟨z, X⟩] else Q) (M + 300) c' s ∧ Kp F w w' ∧ cm ≤ c' ∧ c' ≤ cm + 1 := by
  have hS : Chs (fun k => ¬ F k) w (.slice (some ⟨B, 0, none⟩) 1 1) [⟨z, X⟩] := by
    refine ⟨some ⟨B, 0, none⟩, 1, rfl, Nat.le_refl _, by unfold maxLen; omega, fun i hi => ⟨B, 0, rfl, hB, lt_of_cell c0, ?_⟩⟩
    have : i = 0 := by simpa using hi
    subst this
    exact ⟨c0, c1⟩
  have hd : ∀ c ∈ [(⟨z, X⟩ : Chg)], c.data.size = 256 := by simpa using hX
  have hi : i64s ([(⟨z, X⟩ : Chg)].map Chg.page) := by simpa [i64s] using hz
  have hr := rightE_one q.n ⟨z, X⟩
  unfold rdCE
  by_cases hin : inR q.n z = true
  · rw [if_pos hin, if_pos hin]
    rw [if_pos (show inR q.n (⟨z, X⟩ : Chg).page = true from hin)] at hr
    exact ccommit_ok H hM hS hd hi h0 h1 hr
  · rw [if_neg hin, if_neg hin]
    rw [if_neg (show ¬ inR q.n (⟨z, X⟩ : Chg).page = true from hin)] at hr
    have := ccommit_no H hM hS hd hi h0 h1 (by rw [hr]; omega)
    rw [hr] at this
    refine this.mono ?_
    rintro e w' ⟨D', rfl, a1, a2⟩
    exact ⟨D', cm, rfl, a1, a2, Int.le_refl _, by omega⟩
theorem make_bytes (w : World) (n : Nat) (hn : n ≤ 1000) : ∃ wa, (Instr.makeSlice 98 (.int .i64 (n : Int)) (.int .i64 (n : Int))).run Tryz.prog w = .ok (.slice (some ⟨w.heap.size, 0, none⟩) n n) wa ∧ Own 5 wa w.heap.size (.slice (some ⟨w.heap.size, 0, none⟩) n n) (List.replicate n 0) ∧ Kp none' w wa := by
  obtain ⟨i0, hi, hz0, hz1, hz2⟩ := info_parts infoU8
  obtain ⟨wa, hmk, hOa, hga⟩ := run_make_full (P := Tryz.prog) w w.heap.size 98 5 i0 _ 1 Tryz.underlying98 hi hz0 hz1 .i64 .i64 n (by rw [hz2]; omega) (by unfold maxLen; omega) (Nat.le_refl _)
  refine ⟨wa, hmk, ?_, Kp.ofN hga _⟩
  have e : (madeCells (Value.int .u8 0).cells (n * 1)).toList = bcs (List.replicate n 0) := by
    show (madeCells #[Value.int .u8 0] (n * 1)).toList = _
    rw [toList_madeCells_one]
    unfold bcs
    rw [List.map_replicate, Nat.mul_one]
    rfl
  unfold Own
  rw [List.length_replicate, ← e]
  exact hOa
theorem Own.keptK {e : TypeId} {w w' : World} {base : Nat} {v : Value} {l : List UInt8} {S : Nat → Prop} (h : Own e w base v l) (hk : Kp S w w') (hS : ∀ k, v.ownBlock = some k → ¬ S k) : Own e w' base v l := prow_kept h hk hS
theorem M_le {w : World} {q : Cq} {F : Nat → Prop} {D : Dv} {Q : Nat → ByteArray} {M M' cm : Int} {s : St} (H : Cst w q F D Q M cm s) (h : M ≤ M') : Cst w q F D Q M' cm s := by
  obtain ⟨L, N, T, h1, h2, h3, h4⟩ := H
  exact ⟨L, N, T, ⟨h1.hR.less h, h1.st, h1.hP, h1.cc, h1.rg, h1.mc, h1.nd, h1.da, h1.s1, h1.s2, h1.s3, h1.s4, h1.n2, h1.hQ, h1.sm⟩, h2, h3, h4⟩
/-- How many pages. -/
def pgN (n : Int) : Nat := 1 + (n % 18446744073709551616 % 30).toNat
theorem pgN_le (n : Int) : 1 ≤ pgN n ∧ pgN n ≤ 30 := by unfold pgN; omega
theorem pgN_wrap (n0 : Int) : Hid (wrap64 (1 + wrap64 ((IntKind.u64.wrap n0).tmod 30)) = (pgN n0 : Int)) := by
  show _ = _
  have hu : IntKind.u64.wrap n0 = n0 % 18446744073709551616 := by simp [IntKind.wrap, IntKind.bits, IntKind.signed]
  have h0 : 0 ≤ n0 % 18446744073709551616 := by omega
  rw [hu, Int.tmod_eq_emod_of_nonneg h0]
  unfold wrap64 pgN
  omega
/-- Pages of one byte each. -/
def pgs1 (P : List UInt8) : Nat → ByteArray := fun p => fillB (P.getD p 0)
theorem pgs1_new (n : Nat) : (fun _ => fillB 0) = pgs1 (List.replicate n 0) := by
  funext p
  unfold pgs1
  rw [List.getD_eq_getElem?_getD, List.getElem?_replicate]
  split <;> rfl
theorem pgs1_size (P : List UInt8) : ∀ p, (pgs1 P p).size = 256 := fun p => fillB_size _
theorem pgs1_set (P : List UInt8) (k : Nat) (b : UInt8) (hk : k < P.length) : withC (pgs1 P) [⟨(k : Int), fillB b⟩] = pgs1 (P.set k b) := by
  funext p
  show (if (p : Int) = (k : Int) then fillB b else pgs1 P p) = _
  unfold pgs1
  rw [List.getD_eq_getElem?_getD, List.getD_eq_getElem?_getD, List.getElem?_set]
  by_cases e : p = k
  · subst e
    simp [hk]
  · rw [if_neg (by omega), if_neg (fun h => e h.symm)]

end Go.Proofs.YtmnedhlgplkfhaaGreat
