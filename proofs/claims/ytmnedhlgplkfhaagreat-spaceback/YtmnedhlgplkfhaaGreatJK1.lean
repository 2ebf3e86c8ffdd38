/- Places in a ring, and which pages are kept behind a read: plain mathematics, nothing of the program. Conditions: those that each theorem states. Contracts, over the turned program: the ring of links. Conditions: those that each theorem states. Contracts, over the turned program: a ring that is new, its last link, a value put into it, each link in turn. Conditions: those that each theorem states. A cache in memory: its cells, its map of places, its ring; a key taken out of a map. Conditions: those that each theorem states. -/
import Derived.Test.YtmnedhlgplkfhaaGreatJB
import Derived.BigRegion
import Derived.Shelf.Abstract
import Derived.Lib.Builder
import Derived.Test.YtmnedhlgplkfhaaGreatJU
import Derived.Test.YtmnedhlgplkfhaaGreatJP4
namespace Go.Proofs.YtmnedhlgplkfhaaGreat
set_option linter.unusedVariables false

/-- Another value at one place. -/
def updN (f : Nat → Nat) (i x : Nat) : Nat → Nat := fun k => if k = i then x else f k
theorem updN_same (f : Nat → Nat) (i x : Nat) : updN f i x i = x := by simp [updN]
theorem updN_ne {f : Nat → Nat} {i x k : Nat} (h : k ≠ i) : updN f i x k = f k := by simp [updN, h]
/-- From x behind, through the places l, to y; and ahead, back again. -/
def Seg (be ah : Nat → Nat) : Nat → List Nat → Nat → Prop
  | x, [], y => be x = y ∧ ah y = x
  | x, a :: l, y => be x = a ∧ ah a = x ∧ Seg be ah a l y
theorem Seg.split {be ah : Nat → Nat} (q : List Nat) (a : Nat) : ∀ (p : List Nat) (x y : Nat), Seg be ah x (p ++ a :: q) y ↔ Seg be ah x p a ∧ Seg be ah a q y
  | [], x, y => by simp [Seg, and_assoc]
  | b :: p, x, y => by simp [Seg, Seg.split q a p b y, and_assoc]
theorem Seg.same {be ah be' ah' : Nat → Nat} : ∀ (l : List Nat) (x y : Nat), Seg be ah x l y → (∀ z ∈ x :: l, be' z = be z) → (∀ z ∈ l ++ [y], ah' z = ah z) → Seg be' ah' x l y
  | [], x, y, h, h1, h2 => ⟨by rw [h1 x (by simp)]; exact h.1, by rw [h2 y (by simp)]; exact h.2⟩
  | a :: l, x, y, h, h1, h2 => ⟨by rw [h1 x (by simp)]; exact h.1, by rw [h2 a (by simp)]; exact h.2.1, Seg.same l a y h.2.2 (fun z hz => h1 z (List.mem_cons_of_mem _ hz)) (fun z hz => h2 z (List.mem_cons_of_mem _ hz))⟩
theorem Seg.first {be ah : Nat → Nat} {x y : Nat} {l : List Nat} (h : Seg be ah x l y) : be x ∈ l ++ [y] := by
  cases l with
  | nil => rw [h.1]; simp
  | cons a l => rw [h.1]; simp
theorem Seg.last {be ah : Nat → Nat} : ∀ (l : List Nat) (x y : Nat), Seg be ah x l y → ah y ∈ x :: l
  | [], x, y, h => by rw [h.2]; simp
  | a :: l, x, y, h => List.mem_cons_of_mem _ (Seg.last l a y h.2.2)
/-- A place leaves. -/
theorem Seg.leave {be ah : Nat → Nat} (x : Nat) (q : List Nat) (t : Nat) (h2 : Seg be ah x q t) : ∀ (p : List Nat) (s : Nat), Seg be ah s p x → (s :: (p ++ x :: q)).Nodup → (∀ z ∈ p ++ x :: q, z ≠ t) →
    Seg (updN be (ah x) (be x)) (updN ah (be x) (ah x)) s (p ++ q) t
  | [], s, h, hn, ht => by
    obtain ⟨a1, a2⟩ := h
    rw [a2]
    cases q with
    | nil =>
      obtain ⟨b1, b2⟩ := h2
      exact ⟨by rw [updN_same, b1], by rw [b1, updN_same]⟩
    | cons b q =>
      obtain ⟨b1, b2, b3⟩ := h2
      rw [b1]
      refine ⟨updN_same _ _ _, updN_same _ _ _, b3.same _ _ _ (fun z hz => updN_ne ?_) (fun z hz => updN_ne ?_)⟩
      · rintro rfl
        simp at hn hz
        rcases hz with rfl | hz
        · exact hn.1.2.1 rfl
        · exact hn.1.2.2 hz
      · rintro rfl
        simp at hn hz ht
        rcases hz with hz | rfl
        · exact hn.2.2.1 hz
        · exact ht.2.1 rfl
  | a :: p, s, h, hn, ht => by
    obtain ⟨b1, b2, b3⟩ := h
    have hn' : (a :: (p ++ x :: q)).Nodup := by
      have := List.nodup_cons.1 hn
      exact this.2
    have ih := Seg.leave x q t h2 p a b3 hn' (fun z hz => ht z (List.mem_cons_of_mem _ hz))
    have l1 := Seg.last p a x b3
    have l2 := Seg.first h2
    refine ⟨?_, ?_, ih⟩
    · rw [updN_ne]
      · exact b1
      · rintro rfl
        have := (List.nodup_cons.1 hn).1
        exact this (by
          rcases List.mem_cons.1 l1 with e | e
          · exact e ▸ List.mem_cons_self
          · exact List.mem_cons_of_mem _ (List.mem_append.2 (.inl e)))
    · rw [updN_ne]
      · exact b2
      · rintro rfl
        rcases List.mem_append.1 l2 with e | e
        · have := (List.nodup_cons.1 hn').1
          exact this (List.mem_append.2 (.inr (List.mem_cons_of_mem _ e)))
        · exact ht (be x) (by simp) (by simpa using e)
/-- A place joins, as the first. -/
theorem Seg.join {be ah : Nat → Nat} {s x : Nat} {l : List Nat} (h : Seg be ah s l s) (hx : x ∉ s :: l) (hs : s ∉ l) (hn : l.Nodup) :
    Seg (updN (updN be x (be s)) s x) (updN (updN ah x s) (be s) x) s (x :: l) s := by
  have hsx : x ≠ s := fun e => hx (by rw [e]; simp)
  cases l with
  | nil =>
    obtain ⟨b1, b2⟩ := h
    rw [b1]
    exact ⟨updN_same _ _ _, by rw [updN_ne hsx, updN_same], by rw [updN_ne hsx, updN_same], updN_same _ _ _⟩
  | cons b l =>
    obtain ⟨b1, b2, b3⟩ := h
    rw [b1]
    simp at hx hs hn
    refine ⟨updN_same _ _ _, by rw [updN_ne hx.2.1, updN_same], by rw [updN_ne hsx, updN_same], updN_same _ _ _, b3.same _ _ _ (fun z hz => ?_) (fun z hz => ?_)⟩
    · rw [updN_ne, updN_ne]
      · rintro rfl; simp at hz; rcases hz with rfl | hz
        · exact hx.2.1 rfl
        · exact hx.2.2 hz
      · rintro rfl; simp at hz; rcases hz with rfl | hz
        · exact hs.1 rfl
        · exact hs.2 hz
    · rw [updN_ne, updN_ne]
      · rintro rfl; simp at hz; rcases hz with hz | rfl
        · exact hx.2.2 hz
        · exact hsx rfl
      · rintro rfl; simp at hz; rcases hz with hz | rfl
        · exact hn.1 hz
        · exact hs.1 rfl
/-- The last place. -/
theorem Seg.back {be ah : Nat → Nat} {x y a : Nat} {l : List Nat} (h : Seg be ah x (l ++ [a]) y) : ah y = a := by
  rw [Seg.split] at h
  exact h.2.2

/-- What is kept behind a read. -/
def use (sz : Nat) (K : List Int) (n : Int) : List Int := if n ∈ K then n :: K.erase n else (n :: K).take sz
theorem use_len {sz : Nat} {K : List Int} (h : K.length ≤ sz) (n : Int) : (use sz K n).length ≤ sz := by
  unfold use
  split
  · rename_i hn
    rw [List.length_cons, List.length_erase_of_mem hn]
    have := List.length_pos_of_mem hn
    omega
  · rw [List.length_take]; omega
theorem use_nodup {sz : Nat} {K : List Int} (h : K.Nodup) (n : Int) : (use sz K n).Nodup := by
  unfold use
  split
  · rw [List.nodup_cons]
    exact ⟨fun hm => by rw [h.mem_erase_iff] at hm; exact hm.1 rfl, h.erase n⟩
  · rename_i hn
    exact (List.nodup_cons.2 ⟨hn, h⟩).sublist (List.take_sublist _ _)
theorem use_head {sz : Nat} {K : List Int} (hs : 0 < sz) (n : Int) : (use sz K n)[0]? = some n := by
  unfold use
  split
  · rfl
  · obtain ⟨k, rfl⟩ : ∃ k, sz = k + 1 := ⟨sz - 1, by omega⟩
    rfl
theorem use_mem {sz : Nat} {K : List Int} {n z : Int} (h : z ∈ use sz K n) : z = n ∨ z ∈ K := by
  unfold use at h
  split at h
  · rcases List.mem_cons.1 h with e | e
    · exact .inl e
    · exact .inr (List.mem_of_mem_erase e)
  · rcases List.mem_cons.1 (List.mem_of_mem_take h) with e | e
    · exact .inl e
    · exact .inr e
/-- A small cache's and a large one's. -/
structure Less (s t : Nat) (K L : List Int) : Prop where
  pre : K <+: L
  all : K.length < s → K = L
  lk : K.length ≤ s
  ll : L.length ≤ t
theorem Less.use {s t : Nat} {K L : List Int} (h : Less s t K L) (hst : s ≤ t) (n : Int) : Less s t (use s K n) (use t L n) ∧ (n ∈ K → n ∈ L) := by
  have hl := use_len h.lk n
  have hl' := use_len h.ll n
  obtain ⟨r, rfl⟩ := h.pre
  refine ⟨?_, fun hn => List.mem_append.2 (.inl hn)⟩
  by_cases h1 : n ∈ K
  · have h2 : n ∈ K ++ r := List.mem_append.2 (.inl h1)
    refine ⟨?_, fun hlt => ?_, hl, hl'⟩
    · unfold Go.Proofs.YtmnedhlgplkfhaaGreat.use
      rw [if_pos h1, if_pos h2, List.erase_append_left _ h1]
      exact ⟨r, by simp⟩
    · unfold Go.Proofs.YtmnedhlgplkfhaaGreat.use at *
      rw [if_pos h1] at *
      rw [if_pos h2] at *
      have hp := List.length_pos_of_mem h1
      have : K.length < s := by
        rw [List.length_cons, List.length_erase_of_mem h1] at hlt
        omega
      rw [← h.all this]
  · by_cases h2 : n ∈ K ++ r
    · have hKs : K.length = s := by
        rcases Nat.lt_or_ge K.length s with hlt | hge
        · rw [← h.all hlt] at h2
          exact absurd h2 h1
        · have := h.lk
          omega
      have e1 : (Go.Proofs.YtmnedhlgplkfhaaGreat.use s K n).length = s := by
        unfold Go.Proofs.YtmnedhlgplkfhaaGreat.use
        rw [if_neg h1, List.length_take, List.length_cons]
        omega
      refine ⟨?_, fun hlt => by omega, hl, hl'⟩
      unfold Go.Proofs.YtmnedhlgplkfhaaGreat.use
      rw [if_neg h1, if_pos h2, List.erase_append_right _ h1]
      exact (List.take_prefix _ _).trans ⟨r.erase n, by simp⟩
    · rcases Nat.lt_or_ge K.length s with hlt | hge
      · have hKr := h.all hlt
        rw [← hKr]
        have : Go.Proofs.YtmnedhlgplkfhaaGreat.use s K n = Go.Proofs.YtmnedhlgplkfhaaGreat.use t K n := by
          unfold Go.Proofs.YtmnedhlgplkfhaaGreat.use
          rw [if_neg h1, if_neg h1, List.take_of_length_le (by simp; omega), List.take_of_length_le (by simp; omega)]
        rw [this]
        exact ⟨List.prefix_refl _, fun _ => rfl, by rw [← this]; exact hl, by rw [hKr]; exact hl'⟩
      · have hlk := h.lk
        have e1 : (Go.Proofs.YtmnedhlgplkfhaaGreat.use s K n).length = s := by
          unfold Go.Proofs.YtmnedhlgplkfhaaGreat.use
          rw [if_neg h1, List.length_take, List.length_cons]
          omega
        refine ⟨?_, fun hlt => by omega, hl, hl'⟩
        unfold Go.Proofs.YtmnedhlgplkfhaaGreat.use
        rw [if_neg h1, if_neg h2]
        have e2 : (n :: K).take s = (n :: (K ++ r)).take s := by
          rw [← List.cons_append, List.take_append_of_le_length (by simp; omega)]
        rw [e2]
        have e3 := List.take_take (i := s) (j := t) (l := n :: (K ++ r))
        rw [Nat.min_eq_left hst] at e3
        rw [← e3]
        exact List.take_prefix _ _
end Go.Proofs.YtmnedhlgplkfhaaGreat

namespace Go.Proofs.YtmnedhlgplkfhaaGreat
open Go.RowKit
set_option linter.unusedVariables false

/-- A block of plain cells. -/
def Cb (w : World) (k : Nat) : Prop := ∃ cs t, w.heap[k]? = some (.cells cs t (0, 0))
theorem Cb.lt {w : World} {k : Nat} (h : Cb w k) : k < w.heap.size := by
  obtain ⟨cs, t, h⟩ := h
  exact (Array.getElem?_eq_some_iff.1 h).1
theorem Cb.kept {w w' : World} {k : Nat} {S : Nat → Prop} (h : Cb w k) (hk : Kp S w w') (hS : ¬ S k) : Cb w' k := by
  have hl := h.lt
  obtain ⟨cs, t, h⟩ := h
  exact ⟨cs, t, by rw [hk.block k hl hS]; exact h⟩
theorem Cb.set {w : World} {k : Nat} (h : Cb w k) (b o : Nat) (u : Value) : Cb (w.setCell ⟨b, o, none⟩ u) k := by
  obtain ⟨cs, t, h⟩ := h
  by_cases e : k = b
  · subst e
    exact ⟨_, _, heap_setCell_same w k o cs t u h⟩
  · exact ⟨cs, t, by rw [heap_setCell_other w _ k u e]; exact h⟩
/-- One cell is written, nothing else. -/
structure Put (w w' : World) (b o : Nat) (u : Value) : Prop where
  same : w'.cell? ⟨b, o, none⟩ = some u
  old : ∀ k j, (k ≠ b ∨ j ≠ o) → w'.cell? ⟨k, j, none⟩ = w.cell? ⟨k, j, none⟩
  fr : ∀ k j, w'.frozen? ⟨k, j, none⟩ = w.frozen? ⟨k, j, none⟩
  kp : Kp (only b) w w'
  sz : w'.heap.size = w.heap.size
  bl : ∀ k, Cb w k → Cb w' k
theorem Put.set (w : World) (b o : Nat) (u x : Value) (h : w.cell? ⟨b, o, none⟩ = some x) : Put w (w.setCell ⟨b, o, none⟩ u) b o u :=
  ⟨World.cell?_setCell_same _ _ _ h, fun k j hk => by
    rw [World.cell?_setCell_other (h := fun e => by
      have e1 := congrArg Addr.block e
      have e2 := congrArg Addr.off e
      simp at e1 e2
      omega)], fun k j => by rw [World.frozen?_setCell], Kp.setCell _ _ _ _ rfl, by simp, fun k h => h.set b o u⟩
theorem Put.drew {w w' : World} {b o : Nat} {u : Value} (h : Put w w' b o u) : Put w w'.drew b o u := ⟨h.same, h.old, h.fr, h.kp.thenN (Kp.drew _ _), h.sz, h.bl⟩
theorem Put.drew0 {w w' : World} {b o : Nat} {u : Value} (h : Put w.drew w' b o u) : Put w w' b o u := ⟨h.same, h.old, h.fr, (Kp.drew _ w).then h.kp, h.sz, h.bl⟩
/-- What a new block holds. -/
theorem new_cell (w : World) (cs : Array Value) (t : TypeId) (j : Nat) (v : Value) (h : cs[j]? = some v) : (w.alloc (.cells cs t)).cell? ⟨w.heap.size, j, none⟩ = some v := by
  have hb : (w.alloc (.cells cs t)).heap[w.heap.size]? = some (.cells cs t (0, 0)) := heap_alloc_new w _
  rw [cell_of_row _ _ _ _ _ _ hb]
  exact h
theorem new_frozen (w : World) (cs : Array Value) (t : TypeId) (j : Nat) : (w.alloc (.cells cs t)).frozen? ⟨w.heap.size, j, none⟩ = false := by
  have hb : (w.alloc (.cells cs t)).heap[w.heap.size]? = some (.cells cs t (0, 0)) := heap_alloc_new w _
  unfold World.frozen?
  rw [show (w.alloc (.cells cs t)).heap[(⟨w.heap.size, j, none⟩ : Addr).block]? = _ from hb]
  simp
/-- A link: its value (a page, its bytes), what lies ahead of it and behind it. -/
structure Lk (w : World) (x : Nat) (n : Int) (d : ByteArray) (a b : Nat) : Prop where
  c0 : w.cell? ⟨x, 0, none⟩ = some (.int .i64 n)
  c1 : w.cell? ⟨x, 1, none⟩ = some (.string d)
  c2 : w.cell? ⟨x, 2, none⟩ = some (.pointer (some ⟨a, 0, none⟩))
  c3 : w.cell? ⟨x, 3, none⟩ = some (.pointer (some ⟨b, 0, none⟩))
  fr : ∀ j, w.frozen? ⟨x, j, none⟩ = false
  bl : Cb w x
theorem Lk.lt {w : World} {x : Nat} {n : Int} {d : ByteArray} {a b : Nat} (h : Lk w x n d a b) : x < w.heap.size := lt_of_cell h.c0
theorem Lk.kept {w w' : World} {x : Nat} {n : Int} {d : ByteArray} {a b : Nat} {S : Nat → Prop} (h : Lk w x n d a b) (hk : Kp S w w') (hx : ¬ S x) : Lk w' x n d a b :=
  ⟨hk.cell h.c0 hx, hk.cell h.c1 hx, hk.cell h.c2 hx, hk.cell h.c3 hx, fun j => by rw [hk.frozen h.lt hx]; exact h.fr j, h.bl.kept hk hx⟩
/-- Links in memory. -/
def RM (w : World) (B : List Nat) (N : Nat → Int) (D : Nat → ByteArray) (ah be : Nat → Nat) : Prop := ∀ x ∈ B, Lk w x (N x) (D x) (ah x) (be x)
theorem RM.kept {w w' : World} {B : List Nat} {N : Nat → Int} {D : Nat → ByteArray} {ah be : Nat → Nat} {S : Nat → Prop} (h : RM w B N D ah be) (hk : Kp S w w') (hS : ∀ x ∈ B, ¬ S x) : RM w' B N D ah be := fun x hx => (h x hx).kept hk (hS x hx)
theorem RM.sub {w : World} {B C : List Nat} {N : Nat → Int} {D : Nat → ByteArray} {ah be : Nat → Nat} (h : RM w B N D ah be) (hC : ∀ x ∈ C, x ∈ B) : RM w C N D ah be := fun x hx => h x (hC x hx)
theorem RM.putB {w w' : World} {B : List Nat} {N : Nat → Int} {D : Nat → ByteArray} {ah be : Nat → Nat} (h : RM w B N D ah be) {a b : Nat} (hp : Put w w' a 3 (.pointer (some ⟨b, 0, none⟩))) : RM w' B N D ah (updN be a b) := fun x hx => by
  have q := h x hx
  refine ⟨by rw [hp.old _ _ (.inr (by omega))]; exact q.c0, by rw [hp.old _ _ (.inr (by omega))]; exact q.c1, by rw [hp.old _ _ (.inr (by omega))]; exact q.c2, ?_, fun j => by rw [hp.fr]; exact q.fr j, hp.bl _ q.bl⟩
  by_cases e : x = a
  · subst e; rw [updN_same]; exact hp.same
  · rw [updN_ne e, hp.old _ _ (.inl e)]; exact q.c3
theorem RM.putA {w w' : World} {B : List Nat} {N : Nat → Int} {D : Nat → ByteArray} {ah be : Nat → Nat} (h : RM w B N D ah be) {a b : Nat} (hp : Put w w' a 2 (.pointer (some ⟨b, 0, none⟩))) : RM w' B N D (updN ah a b) be := fun x hx => by
  have q := h x hx
  refine ⟨by rw [hp.old _ _ (.inr (by omega))]; exact q.c0, by rw [hp.old _ _ (.inr (by omega))]; exact q.c1, ?_, by rw [hp.old _ _ (.inr (by omega))]; exact q.c3, fun j => by rw [hp.fr]; exact q.fr j, hp.bl _ q.bl⟩
  by_cases e : x = a
  · subst e; rw [updN_same]; exact hp.same
  · rw [updN_ne e, hp.old _ _ (.inl e)]; exact q.c2
set_option maxRecDepth 100000 in
set_option maxHeartbeats 800000 in
theorem link_leave (x a b : Nat) (w : World) (va vb : Value) (h2 : w.cell? ⟨x, 2, none⟩ = some (.pointer (some ⟨a, 0, none⟩))) (h3 : w.cell? ⟨x, 3, none⟩ = some (.pointer (some ⟨b, 0, none⟩)))
    (ha : w.cell? ⟨a, 3, none⟩ = some va) (hfa : w.frozen? ⟨a, 3, none⟩ = false) (hb : w.cell? ⟨b, 2, none⟩ = some vb) (hfb : w.frozen? ⟨b, 2, none⟩ = false) :
    Calls Tryz.prog 66 #[.pointer (some ⟨x, 0, none⟩)] w fun e w' => e = .returned (.tuple #[]) ∧ ∃ w1, Put w w1 a 3 (.pointer (some ⟨b, 0, none⟩)) ∧ Put w1 w' b 2 (.pointer (some ⟨a, 0, none⟩)) := by
  have p1 := Put.set w a 3 (.pointer (some ⟨b, 0, none⟩)) va ha
  have hb1 : (w.setCell ⟨a, 3, none⟩ (.pointer (some ⟨b, 0, none⟩))).cell? ⟨b, 2, none⟩ = some vb := by rw [p1.old _ _ (.inr (by omega))]; exact hb
  have hf1 : (w.setCell ⟨a, 3, none⟩ (.pointer (some ⟨b, 0, none⟩))).frozen? ⟨b, 2, none⟩ = false := by rw [p1.fr]; exact hfb
  go_enter Tryz.func66, Tryz.ntmps66
  go_region
  all_goals go_wp2
  all_goals first | go_end0 | ((try simp only [Exit.inBlock, Exit.then]); refine bodyPost_ret (results_none rfl _ _ _) rfl ?_)
  all_goals exact ⟨rfl, _, p1, (Put.set _ b 2 _ vb hb1).drew⟩
set_option maxRecDepth 100000 in
set_option maxHeartbeats 800000 in
theorem link_join (s x b : Nat) (w : World) (v2 v3 vb : Value) (hs : w.cell? ⟨s, 3, none⟩ = some (.pointer (some ⟨b, 0, none⟩))) (hfs : w.frozen? ⟨s, 3, none⟩ = false)
    (h2 : w.cell? ⟨x, 2, none⟩ = some v2) (hf2 : w.frozen? ⟨x, 2, none⟩ = false) (h3 : w.cell? ⟨x, 3, none⟩ = some v3) (hf3 : w.frozen? ⟨x, 3, none⟩ = false)
    (hb : w.cell? ⟨b, 2, none⟩ = some vb) (hfb : w.frozen? ⟨b, 2, none⟩ = false) (hxs : x ≠ s) (hxb : x ≠ b) :
    Calls Tryz.prog 67 #[.agg #[.pointer (some ⟨s, 0, none⟩)], .pointer (some ⟨x, 0, none⟩)] w fun e w' => e = .returned (.tuple #[]) ∧ ∃ w0 w1 w2 w3, Kp none' w w0 ∧ Put w0 w1 x 2 (.pointer (some ⟨s, 0, none⟩)) ∧ Put w1 w2 x 3 (.pointer (some ⟨b, 0, none⟩)) ∧
      Put w2 w3 s 3 (.pointer (some ⟨x, 0, none⟩)) ∧ Put w3 w' b 2 (.pointer (some ⟨x, 0, none⟩)) := by
  have hk := Kp.alloc none' w (.cells #[.pointer (some ⟨s, 0, none⟩)] 81)
  obtain ⟨g, HG⟩ : ∃ g, Hid (w.heap.size = g) := ⟨_, rfl⟩
  have hg : (w.alloc (.cells #[.pointer (some ⟨s, 0, none⟩)] 81)).cell? ⟨g, 0, none⟩ = some (.pointer (some ⟨s, 0, none⟩)) := by rw [← HG.out]; exact new_cell _ _ _ _ _ rfl
  go_enter Tryz.func67, Tryz.ntmps67
  go_upto_region 1 with fail
  obtain ⟨W, HW⟩ : ∃ W, Hid (w.alloc (.cells #[.pointer (some ⟨s, 0, none⟩)] 81) = W) := ⟨_, rfl⟩
  rw [HW.out] at hk hg ⊢
  rw [HG.out]
  have fz : ∀ {q j : Nat} {y : Value}, w.cell? ⟨q, j, none⟩ = some y → w.frozen? ⟨q, j, none⟩ = false → W.frozen? ⟨q, j, none⟩ = false := fun hc hf => by rw [hk.frozen (lt_of_cell hc) (fun h => h)]; exact hf
  have qs := hk.cell hs (fun h => h)
  have fs := fz hs hfs
  have q2 := hk.cell h2 (fun h => h)
  have f2 := fz h2 hf2
  have q3 := hk.cell h3 (fun h => h)
  have f3 := fz h3 hf3
  have qb := hk.cell hb (fun h => h)
  have fb := fz hb hfb
  clear fz hs hfs h2 hf2 h3 hf3 hb hfb
  have p1 := Put.set W x 2 (.pointer (some ⟨s, 0, none⟩)) v2 q2
  have q3' : (W.setCell ⟨x, 2, none⟩ (.pointer (some ⟨s, 0, none⟩))).cell? ⟨x, 3, none⟩ = some v3 := by rw [p1.old _ _ (.inr (by omega))]; exact q3
  have f3' : (W.setCell ⟨x, 2, none⟩ (.pointer (some ⟨s, 0, none⟩))).frozen? ⟨x, 3, none⟩ = false := by rw [p1.fr]; exact f3
  have p2 := (Put.set (W.setCell ⟨x, 2, none⟩ (.pointer (some ⟨s, 0, none⟩))) x 3 (.pointer (some ⟨b, 0, none⟩)) v3 q3').drew
  go_region
  all_goals (
    obtain ⟨W2, H2⟩ : ∃ W2, Hid (((W.setCell ⟨x, 2, none⟩ (.pointer (some ⟨s, 0, none⟩))).setCell ⟨x, 3, none⟩ (.pointer (some ⟨b, 0, none⟩))).drew = W2) := ⟨_, rfl⟩
    rw [H2.out] at p2 ⊢
    have r2 : W2.cell? ⟨x, 2, none⟩ = some (.pointer (some ⟨s, 0, none⟩)) := by rw [p2.old _ _ (.inr (by omega))]; exact p1.same
    have r3 := p2.same
    have rs : W2.cell? ⟨s, 3, none⟩ = some (.pointer (some ⟨b, 0, none⟩)) := by rw [p2.old _ _ (.inl (Ne.symm hxs)), p1.old _ _ (.inl (Ne.symm hxs))]; exact qs
    have es : W2.frozen? ⟨s, 3, none⟩ = false := by rw [p2.fr, p1.fr]; exact fs
    have rb : W2.cell? ⟨b, 2, none⟩ = some vb := by rw [p2.old _ _ (.inl (Ne.symm hxb)), p1.old _ _ (.inl (Ne.symm hxb))]; exact qb
    have eb : W2.frozen? ⟨b, 2, none⟩ = false := by rw [p2.fr, p1.fr]; exact fb
    have p3 := Put.set W2 s 3 (.pointer (some ⟨x, 0, none⟩)) _ rs
    have rb' : (W2.setCell ⟨s, 3, none⟩ (.pointer (some ⟨x, 0, none⟩))).cell? ⟨b, 2, none⟩ = some vb := by rw [p3.old _ _ (.inr (by omega))]; exact rb
    have eb' : (W2.setCell ⟨s, 3, none⟩ (.pointer (some ⟨x, 0, none⟩))).frozen? ⟨b, 2, none⟩ = false := by rw [p3.fr]; exact eb
    go_wp2
    go_region
    all_goals go_wp2
    all_goals first | go_end0 | ((try simp only [Exit.inBlock, Exit.then]); refine bodyPost_ret (results_none rfl _ _ _) rfl ?_)
    all_goals exact ⟨rfl, W, _, W2, _, hk, p1, p2, p3, (Put.set _ b 2 _ vb rb').drew⟩)

/-- The ring of the links L, in this order, with its seam s. -/
structure Ring (w : World) (s : Nat) (L : List Nat) (N : Nat → Int) (D : Nat → ByteArray) (ah be : Nat → Nat) : Prop where
  rm : RM w (s :: L) N D ah be
  sg : Seg be ah s L s
  nd : (s :: L).Nodup
theorem Ring.kept {w w' : World} {s : Nat} {L : List Nat} {N : Nat → Int} {D : Nat → ByteArray} {ah be : Nat → Nat} {S : Nat → Prop} (h : Ring w s L N D ah be) (hk : Kp S w w') (hS : ∀ x ∈ s :: L, ¬ S x) : Ring w' s L N D ah be := ⟨h.rm.kept hk hS, h.sg, h.nd⟩
theorem leave_ring {w : World} {s x : Nat} {p q : List Nat} {N : Nat → Int} {D : Nat → ByteArray} {ah be : Nat → Nat} (h : Ring w s (p ++ x :: q) N D ah be) :
    Calls Tryz.prog 66 #[.pointer (some ⟨x, 0, none⟩)] w fun e w' => e = .returned (.tuple #[]) ∧ ∃ ah' be', Ring w' s (p ++ q) N D ah' be' ∧ Lk w' x (N x) (D x) (ah x) (be x) ∧ Kp (fun k => k ∈ s :: (p ++ q)) w w' ∧ w'.heap.size = w.heap.size := by
  have hx := h.rm x (by simp)
  have hs := (Seg.split q x p s s).1 h.sg
  have la := Seg.last p s x hs.1
  have fb := Seg.first hs.2
  have ma : ah x ∈ s :: (p ++ q) := by
    rcases List.mem_cons.1 la with e | e
    · rw [e]; exact List.mem_cons_self
    · exact List.mem_cons_of_mem _ (List.mem_append.2 (.inl e))
  have mb : be x ∈ s :: (p ++ q) := by
    rcases List.mem_append.1 fb with e | e
    · exact List.mem_cons_of_mem _ (List.mem_append.2 (.inr e))
    · have e' : be x = s := by simpa using e
      rw [e']; exact List.mem_cons_self
  have sub : ∀ z ∈ s :: (p ++ q), z ∈ s :: (p ++ x :: q) := fun z hz => by
    simp only [List.mem_cons, List.mem_append] at hz ⊢
    rcases hz with e | e | e
    · exact .inl e
    · exact .inr (.inl e)
    · exact .inr (.inr (.inr e))
  have hnx : x ∉ s :: (p ++ q) := by
    intro hz
    have hn := h.nd
    simp only [List.nodup_cons, List.nodup_append, List.mem_append, List.mem_cons] at hn hz
    rcases hz with e | e | e
    · exact hn.1 (.inr (.inl e.symm))
    · exact hn.2.2.2 x e x (.inl rfl) rfl
    · exact hn.2.2.1.1 e
  have ka := h.rm _ (sub _ ma)
  have kb := h.rm _ (sub _ mb)
  refine (link_leave x (ah x) (be x) w _ _ hx.c2 hx.c3 ka.c3 (ka.fr 3) kb.c2 (kb.fr 2)).mono ?_
  rintro e w' ⟨rfl, w1, p1, p2⟩
  have hst : ∀ z ∈ p ++ x :: q, z ≠ s := fun z hz e => by
    have := (List.nodup_cons.1 h.nd).1
    rw [e] at hz
    exact this hz
  have hk : Kp (fun k => k ∈ s :: (p ++ q)) w w' := p1.kp.trans p2.kp (fun k _ e => by rw [show k = ah x from e]; exact ma) (fun k _ e => by rw [show k = be x from e]; exact mb)
  refine ⟨rfl, _, _, ⟨(h.rm.sub sub).putB p1 |>.putA p2, Seg.leave x q s hs.2 p s hs.1 h.nd hst, ?_⟩, hx.kept hk hnx, hk, by rw [p2.sz, p1.sz]⟩
  exact h.nd.sublist (List.Sublist.cons_cons _ (List.Sublist.append (List.Sublist.refl _) (List.sublist_cons_self _ _)))
theorem join_ring0 {w : World} {s x : Nat} {L : List Nat} {N : Nat → Int} {D : Nat → ByteArray} {ah be : Nat → Nat} (h : Ring w s L N D ah be) (c0 : w.cell? ⟨x, 0, none⟩ = some (.int .i64 (N x))) (c1 : w.cell? ⟨x, 1, none⟩ = some (.string (D x)))
    {v2 v3 : Value} (c2 : w.cell? ⟨x, 2, none⟩ = some v2) (c3 : w.cell? ⟨x, 3, none⟩ = some v3) (cf : ∀ j, w.frozen? ⟨x, j, none⟩ = false) (cb : Cb w x) (hn : x ∉ s :: L) :
    Calls Tryz.prog 67 #[.agg #[.pointer (some ⟨s, 0, none⟩)], .pointer (some ⟨x, 0, none⟩)] w fun e w' => e = .returned (.tuple #[]) ∧ ∃ ah' be', Ring w' s (x :: L) N D ah' be' ∧ Kp (fun k => k ∈ s :: x :: L) w w' := by
  have hs := h.rm s (by simp)
  have mb : be s ∈ s :: L := by
    rcases List.mem_append.1 (Seg.first h.sg) with e | e
    · exact List.mem_cons_of_mem _ e
    · have e' : be s = s := by simpa using e
      rw [e']; exact List.mem_cons_self
  have kb := h.rm _ mb
  have hxs : x ≠ s := fun e => hn (by rw [e]; exact List.mem_cons_self)
  have hxb : x ≠ be s := fun e => hn (by rw [e]; exact mb)
  refine (link_join s x (be s) w _ _ _ hs.c3 (hs.fr 3) c2 (cf 2) c3 (cf 3) kb.c2 (kb.fr 2) hxs hxb).mono ?_
  rintro e w' ⟨rfl, w0, w1, w2, w3, hk, p1, p2, p3, p4⟩
  have hnd := List.nodup_cons.1 h.nd
  have r2 := ((h.rm.kept hk (fun _ _ h => h)).putA p1).putB p2
  have hx2 : Lk w2 x (N x) (D x) s (be s) := ⟨by rw [p2.old _ _ (.inr (by omega)), p1.old _ _ (.inr (by omega))]; exact hk.cell c0 (fun h => h), by rw [p2.old _ _ (.inr (by omega)), p1.old _ _ (.inr (by omega))]; exact hk.cell c1 (fun h => h),
    by rw [p2.old _ _ (.inr (by omega))]; exact p1.same, p2.same, fun j => by rw [p2.fr, p1.fr, hk.frozen (lt_of_cell c0) (fun h => h)]; exact cf j, p2.bl _ (p1.bl _ (cb.kept hk (fun h => h)))⟩
  have all : RM w2 (s :: x :: L) N D (updN ah x s) (updN be x (be s)) := fun z hz => by
    by_cases e : z = x
    · subst e; rw [updN_same, updN_same]; exact hx2
    · refine r2 z ?_
      simp only [List.mem_cons] at hz ⊢
      rcases hz with h1 | h1 | h1
      · exact .inl h1
      · exact absurd h1 e
      · exact .inr h1
  refine ⟨rfl, _, _, ⟨(all.putB p3).putA p4, Seg.join h.sg hn hnd.1 hnd.2, ?_⟩, ?_⟩
  · simp only [List.nodup_cons, List.mem_cons, not_or] at hnd hn ⊢
    exact ⟨⟨Ne.symm hxs, hnd.1⟩, hn.2, hnd.2⟩
  · have m1 : x ∈ s :: x :: L := by simp
    have m2 : s ∈ s :: x :: L := by simp
    have m3 : be s ∈ s :: x :: L := by
      simp only [List.mem_cons] at mb ⊢
      rcases mb with h1 | h1
      · exact .inl h1
      · exact .inr (.inr h1)
    exact (((hk.mono (fun _ _ h => h.elim)).then (p1.kp.mono (fun k _ e => by rw [show k = x from e]; exact m1))).then (p2.kp.mono (fun k _ e => by rw [show k = x from e]; exact m1))).then (p3.kp.mono (fun k _ e => by rw [show k = s from e]; exact m2)) |>.then (p4.kp.mono (fun k _ e => by rw [show k = be s from e]; exact m3))
theorem join_ring {w : World} {s x a b : Nat} {L : List Nat} {N : Nat → Int} {D : Nat → ByteArray} {ah be : Nat → Nat} (h : Ring w s L N D ah be) (hx : Lk w x (N x) (D x) a b) (hn : x ∉ s :: L) :
    Calls Tryz.prog 67 #[.agg #[.pointer (some ⟨s, 0, none⟩)], .pointer (some ⟨x, 0, none⟩)] w fun e w' => e = .returned (.tuple #[]) ∧ ∃ ah' be', Ring w' s (x :: L) N D ah' be' ∧ Kp (fun k => k ∈ s :: x :: L) w w' := join_ring0 h hx.c0 hx.c1 hx.c2 hx.c3 hx.fr hx.bl hn

end Go.Proofs.YtmnedhlgplkfhaaGreat

namespace Go.Proofs.YtmnedhlgplkfhaaGreat
open Go.RowKit
set_option linter.unusedVariables false

set_option maxRecDepth 100000 in
set_option maxHeartbeats 400000 in
theorem link_last (s a : Nat) (w : World) (h2 : w.cell? ⟨s, 2, none⟩ = some (.pointer (some ⟨a, 0, none⟩))) :
    Calls Tryz.prog 84 #[.agg #[.pointer (some ⟨s, 0, none⟩)]] w fun e w' => e = .returned (.pointer (some ⟨a, 0, none⟩)) ∧ Kp none' w w' := by
  have hk := Kp.alloc none' w (.cells #[.pointer (some ⟨s, 0, none⟩)] 81)
  have hg := new_cell w #[.pointer (some ⟨s, 0, none⟩)] 81 0 _ rfl
  have h2' := hk.cell h2 (fun h => h)
  go_enter Tryz.func84, Tryz.ntmps84
  go_wp2
  go_ret
  exact ⟨rfl, hk⟩
theorem last_ring {w : World} {s x : Nat} {L : List Nat} {N : Nat → Int} {D : Nat → ByteArray} {ah be : Nat → Nat} (h : Ring w s (L ++ [x]) N D ah be) :
    Calls Tryz.prog 84 #[.agg #[.pointer (some ⟨s, 0, none⟩)]] w fun e w' => e = .returned (.pointer (some ⟨x, 0, none⟩)) ∧ Kp none' w w' := by
  have := (h.rm s (by simp)).c2
  rw [Seg.back h.sg] at this
  exact link_last s x w this
/-- Another value of a function of links. -/
def updF' {α : Type} (f : Nat → α) (i : Nat) (x : α) : Nat → α := fun k => if k = i then x else f k
theorem RM.congr {w : World} {B : List Nat} {N N' : Nat → Int} {D D' : Nat → ByteArray} {ah be : Nat → Nat} (h : RM w B N D ah be) (hN : ∀ x ∈ B, N' x = N x) (hD : ∀ x ∈ B, D' x = D x) : RM w B N' D' ah be := fun x hx => by
  rw [hN x hx, hD x hx]; exact h x hx
set_option maxRecDepth 100000 in
set_option maxHeartbeats 800000 in
theorem put_ring {w : World} {s : Nat} {L : List Nat} {N : Nat → Int} {D : Nat → ByteArray} {ah be : Nat → Nat} (n : Int) (d : ByteArray) (h : Ring w s L N D ah be) :
    Calls Tryz.prog 71 #[.agg #[.pointer (some ⟨s, 0, none⟩)], .agg #[.int .i64 n, .string d]] w fun e w' => ∃ x ah' be', e = .returned (.pointer (some ⟨x, 0, none⟩)) ∧ w.heap.size ≤ x ∧ Ring w' s (x :: L) (updF' N x n) (updF' D x d) ah' be' ∧ Kp (fun k => k ∈ s :: L) w w' := by
  have k1 := Kp.alloc none' w (.cells #[.pointer (some ⟨s, 0, none⟩)] 81)
  have r1 := new_cell w #[.pointer (some ⟨s, 0, none⟩)] 81 0 _ rfl
  have e1 : (w.alloc (.cells #[.pointer (some ⟨s, 0, none⟩)] 81)).heap.size = w.heap.size + 1 := by simp
  obtain ⟨W1, H1⟩ : ∃ W1, Hid (w.alloc (.cells #[.pointer (some ⟨s, 0, none⟩)] 81) = W1) := ⟨_, rfl⟩
  rw [H1.out] at k1 r1 e1
  have k2 := Kp.alloc none' W1 (.cells #[.int .i64 n, .string d] 88)
  have e2 : (W1.alloc (.cells #[.int .i64 n, .string d] 88)).heap.size = w.heap.size + 1 + 1 := by simp [e1]
  obtain ⟨W2, H2⟩ : ∃ W2, Hid (W1.alloc (.cells #[.int .i64 n, .string d] 88) = W2) := ⟨_, rfl⟩
  rw [H2.out] at k2 e2
  have k3 := Kp.alloc none' W2 (.cells #[.int .i64 n, .string d, .pointer none, .pointer none] 101)
  have c0 := new_cell W2 #[.int .i64 n, .string d, .pointer none, .pointer none] 101 0 _ rfl
  have c1 := new_cell W2 #[.int .i64 n, .string d, .pointer none, .pointer none] 101 1 _ rfl
  have c2 := new_cell W2 #[.int .i64 n, .string d, .pointer none, .pointer none] 101 2 _ rfl
  have c3 := new_cell W2 #[.int .i64 n, .string d, .pointer none, .pointer none] 101 3 _ rfl
  have cf := new_frozen W2 #[.int .i64 n, .string d, .pointer none, .pointer none] 101
  have cb : Cb (W2.alloc (.cells #[.int .i64 n, .string d, .pointer none, .pointer none] 101)) W2.heap.size := ⟨_, _, heap_alloc_new W2 _⟩
  rw [e2] at c0 c1 c2 c3 cf cb
  obtain ⟨x, HX⟩ : ∃ x, Hid (w.heap.size + 1 + 1 = x) := ⟨_, rfl⟩
  rw [HX.out] at c0 c1 c2 c3 cf cb
  obtain ⟨W3, H3⟩ : ∃ W3, Hid (W2.alloc (.cells #[.int .i64 n, .string d, .pointer none, .pointer none] 101) = W3) := ⟨_, rfl⟩
  rw [H3.out] at k3 c0 c1 c2 c3 cf cb
  have kw := (k1.then k2).then k3
  have hx : w.heap.size ≤ x := by have := HX.out; omega
  have hxl : x ∉ s :: L := fun hm => by
    have := (h.rm x hm).lt
    omega
  have r1' := (k2.then k3).cell r1 (fun h => h)
  have hR := h.kept kw (fun _ _ h => h)
  have hN : ∀ z ∈ s :: L, updF' N x n z = N z := fun z hz => by unfold updF'; rw [if_neg (fun e => hxl (by rw [← e]; exact hz))]
  have hD : ∀ z ∈ s :: L, updF' D x d z = D z := fun z hz => by unfold updF'; rw [if_neg (fun e => hxl (by rw [← e]; exact hz))]
  have hR' : Ring W3 s L (updF' N x n) (updF' D x d) ah be := ⟨hR.rm.congr hN hD, hR.sg, hR.nd⟩
  have hj := join_ring0 hR' (by show W3.cell? ⟨x, 0, none⟩ = _; rw [c0]; simp [updF']) (by rw [c1]; simp [updF']) c2 c3 cf cb hxl
  go_enter Tryz.func71, Tryz.ntmps71
  go_upto_region 2 with fail
  rw [H1.out, H2.out, H3.out, HX.out]
  go_wp2_with (first
    | (go_at_call 67; refine hj.mono ?_; rintro e w4 ⟨rfl, ah4, be4, hR4, hk4⟩)
    | fail)
  go_ret
  exact ⟨x, ah4, be4, rfl, hx, hR4, kw.trans hk4 (fun _ _ h => h.elim) (fun k hk hm => by
    simp only [List.mem_cons] at hm ⊢
    rcases hm with e | e | e
    · exact .inl e
    · omega
    · exact .inr e)⟩
theorem results_ring {fn : Func} {p : Tmp} (h : fn.results = #[.cell p 81]) (tmps : Array Value) (g : Nat) (W : World) (s : Nat) (hp : tmps.getD p undef = .pointer (some ⟨g, 0, none⟩)) (hb : W.heap[g]? = some (.cells #[.pointer (some ⟨s, 0, none⟩)] 81 (0, 0))) :
    (results fn tmps).run Tryz.prog W = .ok (.agg #[.pointer (some ⟨s, 0, none⟩)]) W := by
  exact results_cell_row h tmps W g _ _ _ _ hp hb Tryz.underlying81 rfl (by kernel_rfl)
set_option maxRecDepth 100000 in
set_option maxHeartbeats 400000 in
theorem newRing_any (w : World) :
    Calls Tryz.prog 79 #[] w fun e w' => ∃ s, e = .returned (.agg #[.pointer (some ⟨s, 0, none⟩)]) ∧ w.heap.size ≤ s ∧ Ring w' s [] (fun _ => 0) (fun _ => ⟨#[]⟩) (fun _ => s) (fun _ => s) ∧ Kp none' w w' := by
  go_enter Tryz.func79, Tryz.ntmps79
  go_wp2
  have k1 := Kp.alloc none' w (.cells #[.pointer (some ⟨w.heap.size + 1, 0, none⟩)] 81)
  have r1 : (w.alloc (.cells #[.pointer (some ⟨w.heap.size + 1, 0, none⟩)] 81)).heap[w.heap.size]? = some (.cells #[.pointer (some ⟨w.heap.size + 1, 0, none⟩)] 81 (0, 0)) := heap_alloc_new w _
  have e1 : (w.alloc (.cells #[.pointer (some ⟨w.heap.size + 1, 0, none⟩)] 81)).heap.size = w.heap.size + 1 := by simp
  obtain ⟨W1, H1⟩ : ∃ W1, Hid (w.alloc (.cells #[.pointer (some ⟨w.heap.size + 1, 0, none⟩)] 81) = W1) := ⟨_, rfl⟩
  rw [H1.out] at k1 r1 e1 ⊢
  have k3 := Kp.alloc none' W1 (.cells #[.int .i64 0, .string ⟨#[]⟩, .pointer (some ⟨w.heap.size + 1, 0, none⟩), .pointer (some ⟨w.heap.size + 1, 0, none⟩)] 101)
  have c0 := new_cell W1 #[.int .i64 0, .string ⟨#[]⟩, .pointer (some ⟨w.heap.size + 1, 0, none⟩), .pointer (some ⟨w.heap.size + 1, 0, none⟩)] 101 0 _ rfl
  have c1 := new_cell W1 #[.int .i64 0, .string ⟨#[]⟩, .pointer (some ⟨w.heap.size + 1, 0, none⟩), .pointer (some ⟨w.heap.size + 1, 0, none⟩)] 101 1 _ rfl
  have c2 := new_cell W1 #[.int .i64 0, .string ⟨#[]⟩, .pointer (some ⟨w.heap.size + 1, 0, none⟩), .pointer (some ⟨w.heap.size + 1, 0, none⟩)] 101 2 _ rfl
  have c3 := new_cell W1 #[.int .i64 0, .string ⟨#[]⟩, .pointer (some ⟨w.heap.size + 1, 0, none⟩), .pointer (some ⟨w.heap.size + 1, 0, none⟩)] 101 3 _ rfl
  have cf := new_frozen W1 #[.int .i64 0, .string ⟨#[]⟩, .pointer (some ⟨w.heap.size + 1, 0, none⟩), .pointer (some ⟨w.heap.size + 1, 0, none⟩)] 101
  have cb : Cb (W1.alloc (.cells #[.int .i64 0, .string ⟨#[]⟩, .pointer (some ⟨w.heap.size + 1, 0, none⟩), .pointer (some ⟨w.heap.size + 1, 0, none⟩)] 101)) W1.heap.size := ⟨_, _, heap_alloc_new W1 _⟩
  rw [e1] at c0 c1 c2 c3 cf cb
  have r1' := k3.block w.heap.size (by omega) (fun h => h)
  rw [r1] at r1'
  obtain ⟨W3, H3⟩ : ∃ W3, Hid (W1.alloc (.cells #[.int .i64 0, .string ⟨#[]⟩, .pointer (some ⟨w.heap.size + 1, 0, none⟩), .pointer (some ⟨w.heap.size + 1, 0, none⟩)] 101) = W3) := ⟨_, rfl⟩
  rw [H3.out] at k3 c0 c1 c2 c3 cf cb r1' ⊢
  refine bodyPost_ret (results_ring rfl _ w.heap.size _ (w.heap.size + 1) rfl r1') rfl ?_
  refine ⟨w.heap.size + 1, rfl, by omega, ⟨fun x hx => ?_, ⟨rfl, rfl⟩, by simp⟩, k1.then k3⟩
  have : x = w.heap.size + 1 := by simpa using hx
  subst this
  exact ⟨c0, c1, c2, c3, cf, cb⟩
/-- What comes next: the first of q, else s. -/
def nx (q : List Nat) (s : Nat) : Nat := match q with
  | [] => s
  | x :: _ => x
theorem Seg.nx {be ah : Nat → Nat} {x y : Nat} {l : List Nat} (h : Seg be ah x l y) : be x = nx l y := by
  cases l with
  | nil => exact h.1
  | cons a l => exact h.1
theorem idx_at {p q : List Nat} {x : Nat} (h : (p ++ x :: q).Nodup) : (p ++ x :: q).idxOf x = p.length := by
  have hx : x ∉ p := fun hm => by
    rw [List.nodup_append] at h
    exact h.2.2 x hm x List.mem_cons_self rfl
  rw [List.idxOf_append, if_neg hx]
  simp
theorem idx_out {L : List Nat} {s : Nat} (h : s ∉ L) : L.idxOf s = L.length := List.idxOf_eq_length h
theorem idx_nx {p q : List Nat} {s : Nat} (h : (p ++ q).Nodup) (hs : s ∉ p ++ q) : (p ++ q).idxOf (nx q s) = p.length := by
  cases q with
  | nil => show (p ++ []).idxOf s = _; rw [idx_out hs]; simp
  | cons x q => exact idx_at h
theorem infoLk : (Tryz.prog.info? 101).map (·.size) = some 4 := by kernel_rfl
theorem neq_ptr {w : World} {x s : Nat} (hx : Cb w x) (hs : Cb w s) (h : x ≠ s) : (binOp .neq 77 (.pointer (some ⟨x, 0, none⟩)) (.pointer (some ⟨s, 0, none⟩))).run Tryz.prog w = .ok (.bool true) w := by
  obtain ⟨i, hi, hz⟩ := Option.map_eq_some_iff.1 infoLk
  obtain ⟨ca, ta, ha⟩ := hx
  obtain ⟨cb, tb, hb⟩ := hs
  have hsz : i.size ≠ 0 := by rw [hz]; omega
  have hne : (⟨x, 0, none⟩ : Addr) ≠ ⟨s, 0, none⟩ := fun e => h (congrArg Addr.block e)
  have hq : ∀ d : Nat, (Op.equalIn (d + 1) 77 (.pointer (some ⟨x, 0, none⟩)) (.pointer (some ⟨s, 0, none⟩))).run Tryz.prog w = .ok false w := fun d => by
    simp [Op.equalIn, run_underlying Tryz.underlying77, sizeOf, typeInfo, hi, hsz, run_sameAddr_other w hne ha hb]
  simp only [binOp]
  simp [Op.equal, Op.maxDepth, hq 9999]
theorem neq_same (w : World) (s : Nat) : (binOp .neq 77 (.pointer (some ⟨s, 0, none⟩)) (.pointer (some ⟨s, 0, none⟩))).run Tryz.prog w = .ok (.bool false) w := by
  obtain ⟨i, hi, hz⟩ := Option.map_eq_some_iff.1 infoLk
  exact Go.Lib.run_neq_ptr_same w _ Tryz.underlying77 hi
/-- The block that a pointer names. -/
def blkOf (v : Value) : Nat := match v with
  | .pointer (some a) => a.block
  | _ => 0
set_option maxRecDepth 100000 in
set_option maxHeartbeats 800000 in
theorem each_any {w : World} {s : Nat} {L : List Nat} {N : Nat → Int} {D : Nat → ByteArray} {ah be : Nat → Nat} (I : List Nat → World → Prop) (m : Nat) (cap : Array Value) (hent : ∀ args W, (callFunc m args).run Tryz.prog W = .ok (.enter m args) W)
    (h0 : Ring w s L N D ah be) (hI0 : ∀ W, Kp none' w W → w.heap.size < W.heap.size → I [] W) (hR : ∀ p W, I p W → RM W (s :: L) N D ah be)
    (hf : ∀ p x q W, L = p ++ x :: q → I p W → Calls Tryz.prog m (#[.pointer (some ⟨x, 0, none⟩)] ++ cap) W fun e W' => e = .returned (.tuple #[]) ∧ I (p ++ [x]) W' ∧ W'.cell? ⟨w.heap.size, 0, none⟩ = W.cell? ⟨w.heap.size, 0, none⟩) :
    Calls Tryz.prog 80 #[.agg #[.pointer (some ⟨s, 0, none⟩)], .func (.func m) #[] cap] w fun e w' => e = .returned (.tuple #[]) ∧ I L w' := by
  have k1 := Kp.alloc none' w (.cells #[.pointer (some ⟨s, 0, none⟩)] 81)
  have r1 := new_cell w #[.pointer (some ⟨s, 0, none⟩)] 81 0 _ rfl
  obtain ⟨g, HG⟩ : ∃ g, Hid (w.heap.size = g) := ⟨_, rfl⟩
  rw [HG.out] at r1 hf
  have hnd := List.nodup_cons.1 h0.nd
  have hsg := h0.sg
  have hI1 := hI0 _ k1 (by simp)
  have hs3 := (hR _ _ hI1 s (by simp)).c3
  rw [Seg.nx hsg] at hs3
  go_enter Tryz.func80, Tryz.ntmps80
  go_upto_region 1 with fail
  rw [HG.out]
  obtain ⟨W1, H1⟩ : ∃ W1, Hid (w.alloc (.cells #[.pointer (some ⟨s, 0, none⟩)] 81) = W1) := ⟨_, rfl⟩
  rw [H1.out] at k1 r1 hI1 hs3 ⊢
  have HI0 := hide hI0
  have HF := hide hf
  have HR := hide hR
  clear hI0 hf hR
  go_wp2
  go_loopw [4] (fun t wr => ∃ p q, L = p ++ q ∧ t = .pointer (some ⟨nx q s, 0, none⟩) ∧ I p wr ∧ wr.cell? ⟨g, 0, none⟩ = some (.pointer (some ⟨s, 0, none⟩))) (fun t _ => L.length - L.idxOf (blkOf t))
  case atStart => exact ⟨[], L, rfl, rfl, hI1, r1⟩
  case round =>
    obtain ⟨p, q, hL, rfl, hI, hc⟩ := hrel
    have HL := hide hL
    clear hL
    cases q with
    | nil =>
      have e : nx [] s = s := rfl
      rw [e] at *
      have hq := neq_same wr s
      go_wp2
      first | go_end0 | ((try simp only [Exit.inBlock, Exit.then]); refine bodyPost_ret (results_none rfl _ _ _) rfl ?_)
      have hL := HL.out
      rw [List.append_nil] at hL
      exact ⟨rfl, by first | exact hI | (rw [hL]; exact hI)⟩
    | cons x q =>
      have e : nx (x :: q) s = x := rfl
      rw [e] at *
      have hxs : x ≠ s := fun e => hnd.1 (by rw [HL.out, ← e]; simp)
      have hcall := HF.out p x q wr HL.out hI
      have hsx : Seg be ah x q s := by
        rw [HL.out] at hsg
        exact ((Seg.split q x p s s).1 hsg).2
      have hnxt := Seg.nx hsx
      have HR3 : Hid (∀ W, I (p ++ [x]) W → W.cell? ⟨x, 3, none⟩ = some (.pointer (some ⟨nx q s, 0, none⟩))) := fun W hW => by
        have := (HR.out _ W hW x (by rw [HL.out]; simp)).c3
        rw [hnxt] at this
        exact this
      clear hsx hnxt
      have hq := neq_ptr (HR.out _ _ hI x (by rw [HL.out]; simp)).bl (HR.out _ _ hI s (by simp)).bl hxs
      go_wp2_with (first
        | (refine hcall.mono ?_; rintro e w2 ⟨rfl, hI2, hc2⟩; rw [hc] at hc2; have hx3 := HR3.out w2 hI2)
        | fail)
      go_roundw
      case rel => exact ⟨p ++ [x], q, by rw [HL.out]; simp, rfl, hI2, hc2⟩
      case measure =>
        have hL := HL.out
        have hn2 := hnd.2
        rw [hL] at hn2
        have i1 : L.idxOf x = p.length := by rw [hL]; exact idx_at hn2
        have i2 : L.idxOf (nx q s) = p.length + 1 := by
          have := idx_nx (p := p ++ [x]) (q := q) (s := s) (by simpa using hn2) (by have := hnd.1; rw [hL] at this; simpa using this)
          rw [show (p ++ [x]) ++ q = L by rw [hL]; simp] at this
          rw [this]; simp
        have i3 : L.length = p.length + 1 + q.length := by rw [hL]; simp; omega
        show L.length - L.idxOf (nx q s) < L.length - L.idxOf x
        omega

end Go.Proofs.YtmnedhlgplkfhaaGreat

namespace Go.Proofs.YtmnedhlgplkfhaaGreat
open Go.RowKit
open Go.ChangeMaps (setBlock)
set_option linter.unusedVariables false

/-- One entry less. -/
def delI (c : Int → Option Value) (z : Int) : Int → Option Value := fun k => if k = z then none else c k
theorem run_delI {w : World} {m : Nat} {es : Array MapEntry} {cl : Nat} {c : Int → Option Value} {t e ty : TypeId} (ht : Tryz.prog.underlying t = some (.map 3 e)) (hm : w.heap[m]? = some (.map es cl)) (h : Mi c es.toList cl) (z : Int) :
    ∃ es' cl', (Builtin.delete_ #[t, 3] ty #[.map (some m), .int .i64 z]).run Tryz.prog w = .ok (.tuple #[]) (setBlock w m (.map es' cl')) ∧ Mi (delI c z) es'.toList cl' := by
  have h1 : (#[t, 3] : Array TypeId)[0]? = some t := rfl
  have h2 : (#[Value.map (some m), .int .i64 z] : Array Value)[0]? = some (.map (some m)) := rfl
  have h3 : (#[Value.map (some m), .int .i64 z] : Array Value)[1]? = some (.int .i64 z) := rfl
  rcases h.find z with ⟨q1, q2, q3⟩ | ⟨j, e, q1, q3, q4, q2⟩
  · refine ⟨es, cl, ?_, ?_⟩
    · simp only [Builtin.delete_, h1, h2, h3, Sem.run_bind, run_underlying ht, Result.andThen_ok, MapKept.run_getObj_map hm, Sem.run_pure, run_check, Instr.findKey, run_underlying Tryz.underlying3, q2, MapKept.run_setObj_map _ hm]
      rfl
    · have : delI c z = c := by
        funext k
        unfold delI
        split
        · rename_i e; subst e; exact q1.symm
        · rfl
      rw [this]
      exact h
  · refine ⟨es.eraseIdxIfInBounds j, cl, ?_, ?_⟩
    · simp only [Builtin.delete_, h1, h2, h3, Sem.run_bind, run_underlying ht, Result.andThen_ok, MapKept.run_getObj_map hm, Sem.run_pure, run_check, Instr.findKey, run_underlying Tryz.underlying3, q2, MapKept.run_setObj_map _ hm]
      rfl
    · have hl : (es.eraseIdxIfInBounds j).toList = es.toList.eraseIdx j := by simp
      rw [hl]
      have huniq : ∀ k e', es.toList[k]? = some e' → e'.key = .int .i64 z → k = j := fun k e' hk hkey => by
        have hp := List.pairwise_iff_getElem.1 h.e3
        obtain ⟨lk, vk⟩ := List.getElem?_eq_some_iff.1 hk
        obtain ⟨lj, vj⟩ := List.getElem?_eq_some_iff.1 q3
        rcases Nat.lt_trichotomy k j with hlt | heq | hgt
        · exact absurd (by rw [vk, vj, hkey, q4]) (hp k j lk lj hlt)
        · exact heq
        · exact absurd (by rw [vk, vj, hkey, q4]) (hp j k lj lk hgt)
      have hsub := List.eraseIdx_sublist es.toList j
      refine ⟨fun e' he' => ?_, fun k y hk => ?_, h.e3.sublist hsub, fun e' he' => h.e4 e' (hsub.subset he'), h.e5.sublist (hsub.map _)⟩
      · obtain ⟨i, hi, hie⟩ := List.mem_eraseIdx_iff_getElem?.1 he'
        obtain ⟨k, a, b⟩ := h.e1 e' (List.mem_of_getElem? hie)
        have hkz : k ≠ z := fun e0 => hi (huniq i e' hie (by rw [a, e0]))
        exact ⟨k, a, by simp [delI, hkz, b]⟩
      · have hkz : k ≠ z := fun e0 => by simp [delI, e0] at hk
        simp only [delI, hkz, if_false] at hk
        obtain ⟨e', he', hk'⟩ := h.e2 k y hk
        obtain ⟨i, hi⟩ := List.getElem?_of_mem he'
        refine ⟨e', List.mem_eraseIdx_iff_getElem?.2 ⟨i, fun e0 => ?_, hi⟩, hk'⟩
        subst e0
        rw [q3] at hi
        cases hi
        rw [q4] at hk'
        exact hkz ((Value.int.inj hk').2).symm
/-- A map that tells the places L of the pages N. -/
def MapOf (L : List Nat) (N : Nat → Int) (c : Int → Option Value) : Prop := ∀ z v, c z = some v ↔ ∃ x ∈ L, N x = z ∧ v = .pointer (some ⟨x, 0, none⟩)
theorem MapOf.noneOf {L : List Nat} {N : Nat → Int} {c : Int → Option Value} (h : MapOf L N c) {z : Int} (hz : z ∉ L.map N) : c z = none := by
  cases hc : c z with
  | none => rfl
  | some v =>
    obtain ⟨x, hx, hn, _⟩ := (h z v).1 hc
    exact absurd (List.mem_map.2 ⟨x, hx, hn⟩) hz
theorem MapOf.someOf {L : List Nat} {N : Nat → Int} {c : Int → Option Value} (h : MapOf L N c) {x : Nat} (hx : x ∈ L) : c (N x) = some (.pointer (some ⟨x, 0, none⟩)) := (h _ _).2 ⟨x, hx, rfl, rfl⟩
theorem MapOf.size {L : List Nat} {N : Nat → Int} {c : Int → Option Value} {es : List MapEntry} {cl : Nat} (h : MapOf L N c) (hM : Mi c es cl) (hn : (L.map N).Nodup) : es.length = L.length := by
  have h1 : (es.map (·.key)).Nodup := by
    unfold List.Nodup
    rw [List.pairwise_map]
    exact hM.e3
  have h2 : ((L.map N).map (Value.int .i64)).Nodup := by
    unfold List.Nodup
    rw [List.pairwise_map]
    refine List.Pairwise.imp ?_ hn
    intro a b hab e
    exact hab (Value.int.inj e).2
  have hp := (List.perm_ext_iff_of_nodup h1 h2).2 (fun a => by
    constructor
    · intro ha
      obtain ⟨e, he, rfl⟩ := List.mem_map.1 ha
      obtain ⟨z, hz, hc⟩ := hM.e1 e he
      obtain ⟨x, hx, hn, _⟩ := (h z _).1 hc
      exact List.mem_map.2 ⟨z, List.mem_map.2 ⟨x, hx, hn⟩, hz.symm⟩
    · intro ha
      obtain ⟨z, hz, rfl⟩ := List.mem_map.1 ha
      obtain ⟨x, hx, rfl⟩ := List.mem_map.1 hz
      obtain ⟨e, he, hk⟩ := hM.e2 (N x) _ (h.someOf hx)
      exact List.mem_map.2 ⟨e, he, hk⟩)
  have := hp.length_eq
  simpa using this
/-- Where a cache lies: itself, its pager, its ring's seam, its map, the pager's device; how many pages there are, how many may be kept. -/
structure Cq where
  c : Nat
  g : Nat
  s : Nat
  m : Nat
  p : Dp
  n : Nat
  sz : Nat
/-- All the blocks of a cache. -/
def Cq.foot (q : Cq) (L : List Nat) (k : Nat) : Prop := q.p.mem k ∨ k = q.g ∨ k = q.c ∨ k = q.m ∨ k ∈ q.s :: L
/-- A cache's own cells. -/
structure Cc (w : World) (q : Cq) (h mi cm : Int) : Prop where
  c0 : w.cell? ⟨q.c, 0, none⟩ = some (.pointer (some ⟨q.g, 0, none⟩))
  c1 : w.cell? ⟨q.c, 1, none⟩ = some (.int .i64 (q.sz : Int))
  c2 : w.cell? ⟨q.c, 2, none⟩ = some (.pointer (some ⟨q.s, 0, none⟩))
  c3 : w.cell? ⟨q.c, 3, none⟩ = some (.map (some q.m))
  c4 : w.cell? ⟨q.c, 4, none⟩ = some (.int .i64 h)
  c5 : w.cell? ⟨q.c, 5, none⟩ = some (.int .i64 mi)
  c6 : w.cell? ⟨q.c, 6, none⟩ = some (.int .i64 cm)
  cf : ∀ j, w.frozen? ⟨q.c, j, none⟩ = false
theorem Cc.lt {w : World} {q : Cq} {h mi cm : Int} (H : Cc w q h mi cm) : q.c < w.heap.size := lt_of_cell H.c0
theorem Cc.kept {w w' : World} {q : Cq} {h mi cm : Int} {S : Nat → Prop} (H : Cc w q h mi cm) (hk : Kp S w w') (hS : ¬ S q.c) : Cc w' q h mi cm :=
  ⟨hk.cell H.c0 hS, hk.cell H.c1 hS, hk.cell H.c2 hS, hk.cell H.c3 hS, hk.cell H.c4 hS, hk.cell H.c5 hS, hk.cell H.c6 hS, fun j => by rw [hk.frozen H.lt hS]; exact H.cf j⟩
theorem Cc.put4 {w w' : World} {q : Cq} {h h' mi cm : Int} (H : Cc w q h mi cm) (p : Put w w' q.c 4 (.int .i64 h')) : Cc w' q h' mi cm :=
  ⟨by rw [p.old _ _ (.inr (by omega))]; exact H.c0, by rw [p.old _ _ (.inr (by omega))]; exact H.c1, by rw [p.old _ _ (.inr (by omega))]; exact H.c2, by rw [p.old _ _ (.inr (by omega))]; exact H.c3, p.same,
    by rw [p.old _ _ (.inr (by omega))]; exact H.c5, by rw [p.old _ _ (.inr (by omega))]; exact H.c6, fun j => by rw [p.fr]; exact H.cf j⟩
theorem Cc.put5 {w w' : World} {q : Cq} {h mi mi' cm : Int} (H : Cc w q h mi cm) (p : Put w w' q.c 5 (.int .i64 mi')) : Cc w' q h mi' cm :=
  ⟨by rw [p.old _ _ (.inr (by omega))]; exact H.c0, by rw [p.old _ _ (.inr (by omega))]; exact H.c1, by rw [p.old _ _ (.inr (by omega))]; exact H.c2, by rw [p.old _ _ (.inr (by omega))]; exact H.c3,
    by rw [p.old _ _ (.inr (by omega))]; exact H.c4, p.same, by rw [p.old _ _ (.inr (by omega))]; exact H.c6, fun j => by rw [p.fr]; exact H.cf j⟩
theorem Cc.put6 {w w' : World} {q : Cq} {h mi cm cm' : Int} (H : Cc w q h mi cm) (p : Put w w' q.c 6 (.int .i64 cm')) : Cc w' q h mi cm' :=
  ⟨by rw [p.old _ _ (.inr (by omega))]; exact H.c0, by rw [p.old _ _ (.inr (by omega))]; exact H.c1, by rw [p.old _ _ (.inr (by omega))]; exact H.c2, by rw [p.old _ _ (.inr (by omega))]; exact H.c3,
    by rw [p.old _ _ (.inr (by omega))]; exact H.c4, by rw [p.old _ _ (.inr (by omega))]; exact H.c5, p.same, fun j => by rw [p.fr]; exact H.cf j⟩
/-- A cache's map. -/
def Mc (w : World) (m : Nat) (L : List Nat) (N : Nat → Int) : Prop := ∃ es cl c, w.heap[m]? = some (.map es cl) ∧ Mi c es.toList cl ∧ MapOf L N c
theorem Mc.kept {w w' : World} {m : Nat} {L : List Nat} {N : Nat → Int} {S : Nat → Prop} (h : Mc w m L N) (hk : Kp S w w') (hS : ¬ S m) : Mc w' m L N := by
  obtain ⟨es, cl, c, h1, h2, h3⟩ := h
  exact ⟨es, cl, c, by rw [hk.block m (Array.getElem?_eq_some_iff.1 h1).1 hS]; exact h1, h2, h3⟩
theorem Mc.perm {w : World} {m : Nat} {L L' : List Nat} {N : Nat → Int} (h : Mc w m L N) (hp : ∀ x, x ∈ L' ↔ x ∈ L) : Mc w m L' N := by
  obtain ⟨es, cl, c, h1, h2, h3⟩ := h
  exact ⟨es, cl, c, h1, h2, fun z v => by rw [h3]; simp only [hp]⟩
/-- A cache: its pager at rest with the pages Q, what it keeps (the links L, of the pages N with the bytes T), its hits and misses. -/
structure Ca (w : World) (q : Cq) (D : Dv) (Q : Nat → ByteArray) (M cm : Int) (L : List Nat) (N : Nat → Int) (T : Nat → ByteArray) (h mi : Int) : Prop where
  hR : Rest w q.p D q.n Q M
  st : D.st = false
  hP : Pag w q.g q.p q.n cm (.slice none 0 0) []
  cc : Cc w q h mi cm
  rg : ∃ ah be, Ring w q.s L N T ah be
  mc : Mc w q.m L N
  nd : (L.map N).Nodup
  da : ∀ x ∈ L, ∃ k : Nat, k < q.n ∧ N x = (k : Int) ∧ T x = Q k
  s1 : ∀ k, q.p.mem k → k ≠ q.c ∧ k ≠ q.m ∧ k ∉ q.s :: L
  s2 : q.g ≠ q.c ∧ q.g ≠ q.m ∧ q.g ∉ q.s :: L
  s3 : q.c ≠ q.m ∧ q.c ∉ q.s :: L
  s4 : q.m ∉ q.s :: L
  n2 : q.n ≤ 160
  hQ : ∀ p, (Q p).size = 256
  sm : q.sz ≤ 64
theorem Ca.lt {w : World} {q : Cq} {D : Dv} {Q : Nat → ByteArray} {M cm : Int} {L : List Nat} {N : Nat → Int} {T : Nat → ByteArray} {h mi : Int} (H : Ca w q D Q M cm L N T h mi) (k : Nat) (hk : q.foot L k) : k < w.heap.size := by
  rcases hk with e | e | e | e | e
  · exact H.hR.hd.lt k e
  · rw [e]; exact H.hP.lt
  · rw [e]; exact H.cc.lt
  · obtain ⟨es, cl, c, h1, _⟩ := H.mc
    rw [e]; exact (Array.getElem?_eq_some_iff.1 h1).1
  · obtain ⟨ah, be, hr⟩ := H.rg
    exact (hr.rm k e).lt
theorem Ca.kept {w w' : World} {q : Cq} {D : Dv} {Q : Nat → ByteArray} {M cm : Int} {L : List Nat} {N : Nat → Int} {T : Nat → ByteArray} {h mi : Int} {S : Nat → Prop} (H : Ca w q D Q M cm L N T h mi) (hk : Kp S w w') (hS : ∀ k, q.foot L k → ¬ S k) : Ca w' q D Q M cm L N T h mi := by
  obtain ⟨ah, be, hr⟩ := H.rg
  have hP : Pag w' q.g q.p q.n cm (.slice none 0 0) [] :=
    ⟨hk.cell H.hP.c0 (hS _ (.inr (.inl rfl))), hk.cell H.hP.c1 (hS _ (.inr (.inl rfl))), hk.cell H.hP.c2 (hS _ (.inr (.inl rfl))), hk.cell H.hP.c3 (hS _ (.inr (.inl rfl))), fun j => by rw [hk.frozen H.hP.lt (hS _ (.inr (.inl rfl)))]; exact H.hP.fr j, Chs.nil _ _, H.hP.gp⟩
  exact ⟨H.hR.kept hk (fun k hm => hS k (.inl hm)), H.st, hP, H.cc.kept hk (hS _ (.inr (.inr (.inl rfl)))), ⟨ah, be, hr.kept hk (fun x hx => hS x (.inr (.inr (.inr (.inr hx)))))⟩, H.mc.kept hk (hS _ (.inr (.inr (.inr (.inl rfl))))), H.nd, H.da, H.s1, H.s2, H.s3, H.s4, H.n2, H.hQ, H.sm⟩
theorem Ca.keptN {w w' : World} {q : Cq} {D : Dv} {Q : Nat → ByteArray} {M cm : Int} {L : List Nat} {N : Nat → Int} {T : Nat → ByteArray} {h mi : Int} (H : Ca w q D Q M cm L N T h mi) (hk : Kp none' w w') : Ca w' q D Q M cm L N T h mi := H.kept hk (fun _ _ h => h)

end Go.Proofs.YtmnedhlgplkfhaaGreat
