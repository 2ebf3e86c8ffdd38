/- A cache in memory: its cells, its map of places, its ring; a key taken out of a map. Conditions: those that each theorem states. -/
import Derived.Test.YtcfhgfelmofgjaaCRing2
import Derived.Test.YtcfhgfelmofgjaaJU
import Derived.Test.YtcfhgfelmofgjaaJP4
namespace Go.Proofs.Ytcfhgfelmofgjaa
open Go.RowKit
open Go.ChangeMaps (setBlock)
set_option linter.unusedVariables false

/-- One entry less. -/
def delI (c : Int → Option Value) (z : Int) : Int → Option Value := fun k => if k = z then none else c k
theorem run_delI {w : World} {m : Nat} {es : Array MapEntry} {cl : Nat} {c : Int → Option Value} {t e ty : TypeId} (ht : Try.prog.underlying t = some (.map 3 e)) (hm : w.heap[m]? = some (.map es cl)) (h : Mi c es.toList cl) (z : Int) :
    ∃ es' cl', (Builtin.delete_ #[t, 3] ty #[.map (some m), .int .i64 z]).run Try.prog w = .ok (.tuple #[]) (setBlock w m (.map es' cl')) ∧ Mi (delI c z) es'.toList cl' := by
  have h1 : (#[t, 3] : Array TypeId)[0]? = some t := rfl
  have h2 : (#[Value.map (some m), .int .i64 z] : Array Value)[0]? = some (.map (some m)) := rfl
  have h3 : (#[Value.map (some m), .int .i64 z] : Array Value)[1]? = some (.int .i64 z) := rfl
  rcases h.find z with ⟨q1, q2, q3⟩ | ⟨j, e, q1, q3, q4, q2⟩
  · refine ⟨es, cl, ?_, ?_⟩
    · simp only [Builtin.delete_, h1, h2, h3, Sem.run_bind, run_underlying ht, Result.andThen_ok, MapKept.run_getObj_map hm, Sem.run_pure, run_check, Instr.findKey, run_underlying Try.underlying3, q2, MapKept.run_setObj_map _ hm]
      rfl
    · have : delI c z = c := by
        funext k
        unfold delI
        split
        · rename_i e; subst e; exact q1.symm
        · rfl
      rw [this]
      exact h
  · refine ⟨es.eraseIdxIfInBounds j, cl, ?_, ?_⟩
    · simp only [Builtin.delete_, h1, h2, h3, Sem.run_bind, run_underlying ht, Result.andThen_ok, MapKept.run_getObj_map hm, Sem.run_pure, run_check, Instr.findKey, run_underlying Try.underlying3, q2, MapKept.run_setObj_map _ hm]
      rfl
    · have hl : (es.eraseIdxIfInBounds j).toList = es.toList.eraseIdx j := by simp
      rw [hl]
      have huniq : ∀ k e', es.toList[k]? = some e' → e'.key = .int .i64 z → k = j := fun k e' hk hkey => by
        have hp := List.pairwise_iff_getElem.1 h.e3
        obtain ⟨lk, vk⟩ := List.getElem?_eq_some_iff.1 hk
        obtain ⟨lj, vj⟩ := List.getElem?_eq_some_iff.1 q3
        rcases Nat.lt_trichotomy k j with hlt | heq | hgt
        · exact absurd (by rw [vk, vj, hkey, q4]) (hp k j lk lj hlt)
        · exact heq
        · exact absurd (by rw [vk, vj, hkey, q4]) (hp j k lj lk hgt)
      have hsub := List.eraseIdx_sublist es.toList j
      refine ⟨fun e' he' => ?_, fun k y hk => ?_, h.e3.sublist hsub, fun e' he' => h.e4 e' (hsub.subset he'), h.e5.sublist (hsub.map _)⟩
      · obtain ⟨i, hi, hie⟩ := List.mem_eraseIdx_iff_getElem?.1 he'
        obtain ⟨k, a, b⟩ := h.e1 e' (List.mem_of_getElem? hie)
        have hkz : k ≠ z := fun e0 => hi (huniq i e' hie (by rw [a, e0]))
        exact ⟨k, a, by simp [delI, hkz, b]⟩
      · have hkz : k ≠ z := fun e0 => by simp [delI, e0] at hk
        simp only [delI, hkz, if_false] at hk
        obtain ⟨e', he', hk'⟩ := h.e2 k y hk
        obtain ⟨i, hi⟩ := List.getElem?_of_mem he'
        refine ⟨e', List.mem_eraseIdx_iff_getElem?.2 ⟨i, fun e0 => ?_, hi⟩, hk'⟩
        subst e0
        rw [q3] at hi
        cases hi
        rw [q4] at hk'
        exact hkz ((Value.int.inj hk').2).symm
/-- A map that tells the places L of the pages N. -/
def MapOf (L : List Nat) (N : Nat → Int) (c : Int → Option Value) : Prop := ∀ z v, c z = some v ↔ ∃ x ∈ L, N x = z ∧ v = .pointer (some ⟨x, 0, none⟩)
theorem MapOf.noneOf {L : List Nat} {N : Nat → Int} {c : Int → Option Value} (h : MapOf L N c) {z : Int} (hz : z ∉ L.map N) : c z = none := by
  cases hc : c z with
  | none => rfl
  | some v =>
    obtain ⟨x, hx, hn, _⟩ := (h z v).1 hc
    exact absurd (List.mem_map.2 ⟨x, hx, hn⟩) hz
theorem MapOf.someOf {L : List Nat} {N : Nat → Int} {c : Int → Option Value} (h : MapOf L N c) {x : Nat} (hx : x ∈ L) : c (N x) = some (.pointer (some ⟨x, 0, none⟩)) := (h _ _).2 ⟨x, hx, rfl, rfl⟩
theorem MapOf.size {L : List Nat} {N : Nat → Int} {c : Int → Option Value} {es : List MapEntry} {cl : Nat} (h : MapOf L N c) (hM : Mi c es cl) (hn : (L.map N).Nodup) : es.length = L.length := by
  have h1 : (es.map (·.key)).Nodup := by
    unfold List.Nodup
    rw [List.pairwise_map]
    exact hM.e3
  have h2 : ((L.map N).map (Value.int .i64)).Nodup := by
    unfold List.Nodup
    rw [List.pairwise_map]
    refine List.Pairwise.imp ?_ hn
    intro a b hab e
    exact hab (Value.int.inj e).2
  have hp := (List.perm_ext_iff_of_nodup h1 h2).2 (fun a => by
    constructor
    · intro ha
      obtain ⟨e, he, rfl⟩ := List.mem_map.1 ha
      obtain ⟨z, hz, hc⟩ := hM.e1 e he
      obtain ⟨x, hx, hn, _⟩ := (h z _).1 hc
      exact List.mem_map.2 ⟨z, List.mem_map.2 ⟨x, hx, hn⟩, hz.symm⟩
    · intro ha
      obtain ⟨z, hz, rfl⟩ := List.mem_map.1 ha
      obtain ⟨x, hx, rfl⟩ := List.mem_map.1 hz
      obtain ⟨e, he, hk⟩ := hM.e2 (N x) _ (h.someOf hx)
      exact List.mem_map.2 ⟨e, he, hk⟩)
  have := hp.length_eq
  simpa using this
/-- Where a cache lies: itself, its pager, its ring's seam, its map, the pager's device; how many pages there are, how many may be kept. -/
structure Cq where
  c : Nat
  g : Nat
  s : Nat
  m : Nat
  p : Dp
  n : Nat
  sz : Nat
/-- All the blocks of a cache. -/
def Cq.foot (q : Cq) (L : List Nat) (k : Nat) : Prop := q.p.mem k ∨ k = q.g ∨ k = q.c ∨ k = q.m ∨ k ∈ q.s :: L
/-- A cache's own cells. -/
structure Cc (w : World) (q : Cq) (h mi cm : Int) : Prop where
  c0 : w.cell? ⟨q.c, 0, none⟩ = some (.pointer (some ⟨q.g, 0, none⟩))
  c1 : w.cell? ⟨q.c, 1, none⟩ = some (.int .i64 (q.sz : Int))
  c2 : w.cell? ⟨q.c, 2, none⟩ = some (.pointer (some ⟨q.s, 0, none⟩))
  c3 : w.cell? ⟨q.c, 3, none⟩ = some (.map (some q.m))
  c4 : w.cell? ⟨q.c, 4, none⟩ = some (.int .i64 h)
  c5 : w.cell? ⟨q.c, 5, none⟩ = some (.int .i64 mi)
  c6 : w.cell? ⟨q.c, 6, none⟩ = some (.int .i64 cm)
  cf : ∀ j, w.frozen? ⟨q.c, j, none⟩ = false
theorem Cc.lt {w : World} {q : Cq} {h mi cm : Int} (H : Cc w q h mi cm) : q.c < w.heap.size := lt_of_cell H.c0
theorem Cc.kept {w w' : World} {q : Cq} {h mi cm : Int} {S : Nat → Prop} (H : Cc w q h mi cm) (hk : Kp S w w') (hS : ¬ S q.c) : Cc w' q h mi cm :=
  ⟨hk.cell H.c0 hS, hk.cell H.c1 hS, hk.cell H.c2 hS, hk.cell H.c3 hS, hk.cell H.c4 hS, hk.cell H.c5 hS, hk.cell H.c6 hS, fun j => by rw [hk.frozen H.lt hS]; exact H.cf j⟩
theorem Cc.put4 {w w' : World} {q : Cq} {h h' mi cm : Int} (H : Cc w q h mi cm) (p : Put w w' q.c 4 (.int .i64 h')) : Cc w' q h' mi cm :=
  ⟨by rw [p.old _ _ (.inr (by omega))]; exact H.c0, by rw [p.old _ _ (.inr (by omega))]; exact H.c1, by rw [p.old _ _ (.inr (by omega))]; exact H.c2, by rw [p.old _ _ (.inr (by omega))]; exact H.c3, p.same,
    by rw [p.old _ _ (.inr (by omega))]; exact H.c5, by rw [p.old _ _ (.inr (by omega))]; exact H.c6, fun j => by rw [p.fr]; exact H.cf j⟩
theorem Cc.put5 {w w' : World} {q : Cq} {h mi mi' cm : Int} (H : Cc w q h mi cm) (p : Put w w' q.c 5 (.int .i64 mi')) : Cc w' q h mi' cm :=
  ⟨by rw [p.old _ _ (.inr (by omega))]; exact H.c0, by rw [p.old _ _ (.inr (by omega))]; exact H.c1, by rw [p.old _ _ (.inr (by omega))]; exact H.c2, by rw [p.old _ _ (.inr (by omega))]; exact H.c3,
    by rw [p.old _ _ (.inr (by omega))]; exact H.c4, p.same, by rw [p.old _ _ (.inr (by omega))]; exact H.c6, fun j => by rw [p.fr]; exact H.cf j⟩
theorem Cc.put6 {w w' : World} {q : Cq} {h mi cm cm' : Int} (H : Cc w q h mi cm) (p : Put w w' q.c 6 (.int .i64 cm')) : Cc w' q h mi cm' :=
  ⟨by rw [p.old _ _ (.inr (by omega))]; exact H.c0, by rw [p.old _ _ (.inr (by omega))]; exact H.c1, by rw [p.old _ _ (.inr (by omega))]; exact H.c2, by rw [p.old _ _ (.inr (by omega))]; exact H.c3,
    by rw [p.old _ _ (.inr (by omega))]; exact H.c4, by rw [p.old _ _ (.inr (by omega))]; exact H.c5, p.same, fun j => by rw [p.fr]; exact H.cf j⟩
/-- A cache's map. -/
def Mc (w : World) (m : Nat) (L : List Nat) (N : Nat → Int) : Prop := ∃ es cl c, w.heap[m]? = some (.map es cl) ∧ Mi c es.toList cl ∧ MapOf L N c
theorem Mc.kept {w w' : World} {m : Nat} {L : List Nat} {N : Nat → Int} {S : Nat → Prop} (h : Mc w m L N) (hk : Kp S w w') (hS : ¬ S m) : Mc w' m L N := by
  obtain ⟨es, cl, c, h1, h2, h3⟩ := h
  exact ⟨es, cl, c, by rw [hk.block m (Array.getElem?_eq_some_iff.1 h1).1 hS]; exact h1, h2, h3⟩
theorem Mc.perm {w : World} {m : Nat} {L L' : List Nat} {N : Nat → Int} (h : Mc w m L N) (hp : ∀ x, x ∈ L' ↔ x ∈ L) : Mc w m L' N := by
  obtain ⟨es, cl, c, h1, h2, h3⟩ := h
  exact ⟨es, cl, c, h1, h2, fun z v => by rw [h3]; simp only [hp]⟩
/-- A cache: its pager at rest with the pages Q, what it keeps (the links L, of the pages N with the bytes T), its hits and misses. -/
structure Ca (w : World) (q : Cq) (D : Dv) (Q : Nat → ByteArray) (M cm : Int) (L : List Nat) (N : Nat → Int) (T : Nat → ByteArray) (h mi : Int) : Prop where
  hR : Rest w q.p D q.n Q M
  st : D.st = false
  hP : Pag w q.g q.p q.n cm (.slice none 0 0) []
  cc : Cc w q h mi cm
  rg : ∃ ah be, Ring w q.s L N T ah be
  mc : Mc w q.m L N
  nd : (L.map N).Nodup
  da : ∀ x ∈ L, ∃ k : Nat, k < q.n ∧ N x = (k : Int) ∧ T x = Q k
  s1 : ∀ k, q.p.mem k → k ≠ q.c ∧ k ≠ q.m ∧ k ∉ q.s :: L
  s2 : q.g ≠ q.c ∧ q.g ≠ q.m ∧ q.g ∉ q.s :: L
  s3 : q.c ≠ q.m ∧ q.c ∉ q.s :: L
  s4 : q.m ∉ q.s :: L
  n2 : q.n ≤ 160
  hQ : ∀ p, (Q p).size = 256
  sm : q.sz ≤ 64
theorem Ca.lt {w : World} {q : Cq} {D : Dv} {Q : Nat → ByteArray} {M cm : Int} {L : List Nat} {N : Nat → Int} {T : Nat → ByteArray} {h mi : Int} (H : Ca w q D Q M cm L N T h mi) (k : Nat) (hk : q.foot L k) : k < w.heap.size := by
  rcases hk with e | e | e | e | e
  · exact H.hR.hd.lt k e
  · rw [e]; exact H.hP.lt
  · rw [e]; exact H.cc.lt
  · obtain ⟨es, cl, c, h1, _⟩ := H.mc
    rw [e]; exact (Array.getElem?_eq_some_iff.1 h1).1
  · obtain ⟨ah, be, hr⟩ := H.rg
    exact (hr.rm k e).lt
theorem Ca.kept {w w' : World} {q : Cq} {D : Dv} {Q : Nat → ByteArray} {M cm : Int} {L : List Nat} {N : Nat → Int} {T : Nat → ByteArray} {h mi : Int} {S : Nat → Prop} (H : Ca w q D Q M cm L N T h mi) (hk : Kp S w w') (hS : ∀ k, q.foot L k → ¬ S k) : Ca w' q D Q M cm L N T h mi := by
  obtain ⟨ah, be, hr⟩ := H.rg
  have hP : Pag w' q.g q.p q.n cm (.slice none 0 0) [] :=
    ⟨hk.cell H.hP.c0 (hS _ (.inr (.inl rfl))), hk.cell H.hP.c1 (hS _ (.inr (.inl rfl))), hk.cell H.hP.c2 (hS _ (.inr (.inl rfl))), hk.cell H.hP.c3 (hS _ (.inr (.inl rfl))), fun j => by rw [hk.frozen H.hP.lt (hS _ (.inr (.inl rfl)))]; exact H.hP.fr j, Chs.nil _ _, H.hP.gp⟩
  exact ⟨H.hR.kept hk (fun k hm => hS k (.inl hm)), H.st, hP, H.cc.kept hk (hS _ (.inr (.inr (.inl rfl)))), ⟨ah, be, hr.kept hk (fun x hx => hS x (.inr (.inr (.inr (.inr hx)))))⟩, H.mc.kept hk (hS _ (.inr (.inr (.inr (.inl rfl))))), H.nd, H.da, H.s1, H.s2, H.s3, H.s4, H.n2, H.hQ, H.sm⟩
theorem Ca.keptN {w w' : World} {q : Cq} {D : Dv} {Q : Nat → ByteArray} {M cm : Int} {L : List Nat} {N : Nat → Int} {T : Nat → ByteArray} {h mi : Int} (H : Ca w q D Q M cm L N T h mi) (hk : Kp none' w w') : Ca w' q D Q M cm L N T h mi := H.kept hk (fun _ _ h => h)

end Go.Proofs.Ytcfhgfelmofgjaa
