/- Contracts, over the turned program: the ring of links. Conditions: those that each theorem states. -/
import Derived.Test.YtcfhgfelmofgjaaCMath
import Derived.BigRegion
namespace Go.Proofs.Ytcfhgfelmofgjaa
open Go.RowKit
set_option linter.unusedVariables false

/-- A block of plain cells. -/
def Cb (w : World) (k : Nat) : Prop := ∃ cs t, w.heap[k]? = some (.cells cs t (0, 0))
theorem Cb.lt {w : World} {k : Nat} (h : Cb w k) : k < w.heap.size := by
  obtain ⟨cs, t, h⟩ := h
  exact (Array.getElem?_eq_some_iff.1 h).1
theorem Cb.kept {w w' : World} {k : Nat} {S : Nat → Prop} (h : Cb w k) (hk : Kp S w w') (hS : ¬ S k) : Cb w' k := by
  have hl := h.lt
  obtain ⟨cs, t, h⟩ := h
  exact ⟨cs, t, by rw [hk.block k hl hS]; exact h⟩
theorem Cb.set {w : World} {k : Nat} (h : Cb w k) (b o : Nat) (u : Value) : Cb (w.setCell ⟨b, o, none⟩ u) k := by
  obtain ⟨cs, t, h⟩ := h
  by_cases e : k = b
  · subst e
    exact ⟨_, _, heap_setCell_same w k o cs t u h⟩
  · exact ⟨cs, t, by rw [heap_setCell_other w _ k u e]; exact h⟩
/-- One cell is written, nothing else. -/
structure Put (w w' : World) (b o : Nat) (u : Value) : Prop where
  same : w'.cell? ⟨b, o, none⟩ = some u
  old : ∀ k j, (k ≠ b ∨ j ≠ o) → w'.cell? ⟨k, j, none⟩ = w.cell? ⟨k, j, none⟩
  fr : ∀ k j, w'.frozen? ⟨k, j, none⟩ = w.frozen? ⟨k, j, none⟩
  kp : Kp (only b) w w'
  sz : w'.heap.size = w.heap.size
  bl : ∀ k, Cb w k → Cb w' k
theorem Put.set (w : World) (b o : Nat) (u x : Value) (h : w.cell? ⟨b, o, none⟩ = some x) : Put w (w.setCell ⟨b, o, none⟩ u) b o u :=
  ⟨World.cell?_setCell_same _ _ _ h, fun k j hk => by
    rw [World.cell?_setCell_other (h := fun e => by
      have e1 := congrArg Addr.block e
      have e2 := congrArg Addr.off e
      simp at e1 e2
      omega)], fun k j => by rw [World.frozen?_setCell], Kp.setCell _ _ _ _ rfl, by simp, fun k h => h.set b o u⟩
theorem Put.drew {w w' : World} {b o : Nat} {u : Value} (h : Put w w' b o u) : Put w w'.drew b o u := ⟨h.same, h.old, h.fr, h.kp.thenN (Kp.drew _ _), h.sz, h.bl⟩
theorem Put.drew0 {w w' : World} {b o : Nat} {u : Value} (h : Put w.drew w' b o u) : Put w w' b o u := ⟨h.same, h.old, h.fr, (Kp.drew _ w).then h.kp, h.sz, h.bl⟩
/-- What a new block holds. -/
theorem new_cell (w : World) (cs : Array Value) (t : TypeId) (j : Nat) (v : Value) (h : cs[j]? = some v) : (w.alloc (.cells cs t)).cell? ⟨w.heap.size, j, none⟩ = some v := by
  have hb : (w.alloc (.cells cs t)).heap[w.heap.size]? = some (.cells cs t (0, 0)) := heap_alloc_new w _
  rw [cell_of_row _ _ _ _ _ _ hb]
  exact h
theorem new_frozen (w : World) (cs : Array Value) (t : TypeId) (j : Nat) : (w.alloc (.cells cs t)).frozen? ⟨w.heap.size, j, none⟩ = false := by
  have hb : (w.alloc (.cells cs t)).heap[w.heap.size]? = some (.cells cs t (0, 0)) := heap_alloc_new w _
  unfold World.frozen?
  rw [show (w.alloc (.cells cs t)).heap[(⟨w.heap.size, j, none⟩ : Addr).block]? = _ from hb]
  simp
/-- A link: its value (a page, its bytes), what lies ahead of it and behind it. -/
structure Lk (w : World) (x : Nat) (n : Int) (d : ByteArray) (a b : Nat) : Prop where
  c0 : w.cell? ⟨x, 0, none⟩ = some (.int .i64 n)
  c1 : w.cell? ⟨x, 1, none⟩ = some (.string d)
  c2 : w.cell? ⟨x, 2, none⟩ = some (.pointer (some ⟨a, 0, none⟩))
  c3 : w.cell? ⟨x, 3, none⟩ = some (.pointer (some ⟨b, 0, none⟩))
  fr : ∀ j, w.frozen? ⟨x, j, none⟩ = false
  bl : Cb w x
theorem Lk.lt {w : World} {x : Nat} {n : Int} {d : ByteArray} {a b : Nat} (h : Lk w x n d a b) : x < w.heap.size := lt_of_cell h.c0
theorem Lk.kept {w w' : World} {x : Nat} {n : Int} {d : ByteArray} {a b : Nat} {S : Nat → Prop} (h : Lk w x n d a b) (hk : Kp S w w') (hx : ¬ S x) : Lk w' x n d a b :=
  ⟨hk.cell h.c0 hx, hk.cell h.c1 hx, hk.cell h.c2 hx, hk.cell h.c3 hx, fun j => by rw [hk.frozen h.lt hx]; exact h.fr j, h.bl.kept hk hx⟩
/-- Links in memory. -/
def RM (w : World) (B : List Nat) (N : Nat → Int) (D : Nat → ByteArray) (ah be : Nat → Nat) : Prop := ∀ x ∈ B, Lk w x (N x) (D x) (ah x) (be x)
theorem RM.kept {w w' : World} {B : List Nat} {N : Nat → Int} {D : Nat → ByteArray} {ah be : Nat → Nat} {S : Nat → Prop} (h : RM w B N D ah be) (hk : Kp S w w') (hS : ∀ x ∈ B, ¬ S x) : RM w' B N D ah be := fun x hx => (h x hx).kept hk (hS x hx)
theorem RM.sub {w : World} {B C : List Nat} {N : Nat → Int} {D : Nat → ByteArray} {ah be : Nat → Nat} (h : RM w B N D ah be) (hC : ∀ x ∈ C, x ∈ B) : RM w C N D ah be := fun x hx => h x (hC x hx)
theorem RM.putB {w w' : World} {B : List Nat} {N : Nat → Int} {D : Nat → ByteArray} {ah be : Nat → Nat} (h : RM w B N D ah be) {a b : Nat} (hp : Put w w' a 3 (.pointer (some ⟨b, 0, none⟩))) : RM w' B N D ah (updN be a b) := fun x hx => by
  have q := h x hx
  refine ⟨by rw [hp.old _ _ (.inr (by omega))]; exact q.c0, by rw [hp.old _ _ (.inr (by omega))]; exact q.c1, by rw [hp.old _ _ (.inr (by omega))]; exact q.c2, ?_, fun j => by rw [hp.fr]; exact q.fr j, hp.bl _ q.bl⟩
  by_cases e : x = a
  · subst e; rw [updN_same]; exact hp.same
  · rw [updN_ne e, hp.old _ _ (.inl e)]; exact q.c3
theorem RM.putA {w w' : World} {B : List Nat} {N : Nat → Int} {D : Nat → ByteArray} {ah be : Nat → Nat} (h : RM w B N D ah be) {a b : Nat} (hp : Put w w' a 2 (.pointer (some ⟨b, 0, none⟩))) : RM w' B N D (updN ah a b) be := fun x hx => by
  have q := h x hx
  refine ⟨by rw [hp.old _ _ (.inr (by omega))]; exact q.c0, by rw [hp.old _ _ (.inr (by omega))]; exact q.c1, ?_, by rw [hp.old _ _ (.inr (by omega))]; exact q.c3, fun j => by rw [hp.fr]; exact q.fr j, hp.bl _ q.bl⟩
  by_cases e : x = a
  · subst e; rw [updN_same]; exact hp.same
  · rw [updN_ne e, hp.old _ _ (.inl e)]; exact q.c2
set_option maxRecDepth 100000 in
set_option maxHeartbeats 800000 in
theorem link_leave (x a b : Nat) (w : World) (va vb : Value) (h2 : w.cell? ⟨x, 2, none⟩ = some (.pointer (some ⟨a, 0, none⟩))) (h3 : w.cell? ⟨x, 3, none⟩ = some (.pointer (some ⟨b, 0, none⟩)))
    (ha : w.cell? ⟨a, 3, none⟩ = some va) (hfa : w.frozen? ⟨a, 3, none⟩ = false) (hb : w.cell? ⟨b, 2, none⟩ = some vb) (hfb : w.frozen? ⟨b, 2, none⟩ = false) :
    Calls Try.prog 30 #[.pointer (some ⟨x, 0, none⟩)] w fun e w' => e = .returned (.tuple #[]) ∧ ∃ w1, Put w w1 a 3 (.pointer (some ⟨b, 0, none⟩)) ∧ Put w1 w' b 2 (.pointer (some ⟨a, 0, none⟩)) := by
  have p1 := Put.set w a 3 (.pointer (some ⟨b, 0, none⟩)) va ha
  have hb1 : (w.setCell ⟨a, 3, none⟩ (.pointer (some ⟨b, 0, none⟩))).cell? ⟨b, 2, none⟩ = some vb := by rw [p1.old _ _ (.inr (by omega))]; exact hb
  have hf1 : (w.setCell ⟨a, 3, none⟩ (.pointer (some ⟨b, 0, none⟩))).frozen? ⟨b, 2, none⟩ = false := by rw [p1.fr]; exact hfb
  go_enter Try.func30, Try.ntmps30
  go_region
  all_goals go_wp2
  all_goals first | go_end0 | ((try simp only [Exit.inBlock, Exit.then]); refine bodyPost_ret (results_none rfl _ _ _) rfl ?_)
  all_goals exact ⟨rfl, _, p1, (Put.set _ b 2 _ vb hb1).drew⟩
set_option maxRecDepth 100000 in
set_option maxHeartbeats 800000 in
theorem link_join (s x b : Nat) (w : World) (v2 v3 vb : Value) (hs : w.cell? ⟨s, 3, none⟩ = some (.pointer (some ⟨b, 0, none⟩))) (hfs : w.frozen? ⟨s, 3, none⟩ = false)
    (h2 : w.cell? ⟨x, 2, none⟩ = some v2) (hf2 : w.frozen? ⟨x, 2, none⟩ = false) (h3 : w.cell? ⟨x, 3, none⟩ = some v3) (hf3 : w.frozen? ⟨x, 3, none⟩ = false)
    (hb : w.cell? ⟨b, 2, none⟩ = some vb) (hfb : w.frozen? ⟨b, 2, none⟩ = false) (hxs : x ≠ s) (hxb : x ≠ b) :
    Calls Try.prog 31 #[.agg #[.pointer (some ⟨s, 0, none⟩)], .pointer (some ⟨x, 0, none⟩)] w fun e w' => e = .returned (.tuple #[]) ∧ ∃ w0 w1 w2 w3, Kp none' w w0 ∧ Put w0 w1 x 2 (.pointer (some ⟨s, 0, none⟩)) ∧ Put w1 w2 x 3 (.pointer (some ⟨b, 0, none⟩)) ∧
      Put w2 w3 s 3 (.pointer (some ⟨x, 0, none⟩)) ∧ Put w3 w' b 2 (.pointer (some ⟨x, 0, none⟩)) := by
  have hk := Kp.alloc none' w (.cells #[.pointer (some ⟨s, 0, none⟩)] 44)
  obtain ⟨g, HG⟩ : ∃ g, Hid (w.heap.size = g) := ⟨_, rfl⟩
  have hg : (w.alloc (.cells #[.pointer (some ⟨s, 0, none⟩)] 44)).cell? ⟨g, 0, none⟩ = some (.pointer (some ⟨s, 0, none⟩)) := by rw [← HG.out]; exact new_cell _ _ _ _ _ rfl
  go_enter Try.func31, Try.ntmps31
  go_upto_region 1 with fail
  obtain ⟨W, HW⟩ : ∃ W, Hid (w.alloc (.cells #[.pointer (some ⟨s, 0, none⟩)] 44) = W) := ⟨_, rfl⟩
  rw [HW.out] at hk hg ⊢
  rw [HG.out]
  have fz : ∀ {q j : Nat} {y : Value}, w.cell? ⟨q, j, none⟩ = some y → w.frozen? ⟨q, j, none⟩ = false → W.frozen? ⟨q, j, none⟩ = false := fun hc hf => by rw [hk.frozen (lt_of_cell hc) (fun h => h)]; exact hf
  have qs := hk.cell hs (fun h => h)
  have fs := fz hs hfs
  have q2 := hk.cell h2 (fun h => h)
  have f2 := fz h2 hf2
  have q3 := hk.cell h3 (fun h => h)
  have f3 := fz h3 hf3
  have qb := hk.cell hb (fun h => h)
  have fb := fz hb hfb
  clear fz hs hfs h2 hf2 h3 hf3 hb hfb
  have p1 := Put.set W x 2 (.pointer (some ⟨s, 0, none⟩)) v2 q2
  have q3' : (W.setCell ⟨x, 2, none⟩ (.pointer (some ⟨s, 0, none⟩))).cell? ⟨x, 3, none⟩ = some v3 := by rw [p1.old _ _ (.inr (by omega))]; exact q3
  have f3' : (W.setCell ⟨x, 2, none⟩ (.pointer (some ⟨s, 0, none⟩))).frozen? ⟨x, 3, none⟩ = false := by rw [p1.fr]; exact f3
  have p2 := (Put.set (W.setCell ⟨x, 2, none⟩ (.pointer (some ⟨s, 0, none⟩))) x 3 (.pointer (some ⟨b, 0, none⟩)) v3 q3').drew
  go_region
  all_goals (
    obtain ⟨W2, H2⟩ : ∃ W2, Hid (((W.setCell ⟨x, 2, none⟩ (.pointer (some ⟨s, 0, none⟩))).setCell ⟨x, 3, none⟩ (.pointer (some ⟨b, 0, none⟩))).drew = W2) := ⟨_, rfl⟩
    rw [H2.out] at p2 ⊢
    have r2 : W2.cell? ⟨x, 2, none⟩ = some (.pointer (some ⟨s, 0, none⟩)) := by rw [p2.old _ _ (.inr (by omega))]; exact p1.same
    have r3 := p2.same
    have rs : W2.cell? ⟨s, 3, none⟩ = some (.pointer (some ⟨b, 0, none⟩)) := by rw [p2.old _ _ (.inl (Ne.symm hxs)), p1.old _ _ (.inl (Ne.symm hxs))]; exact qs
    have es : W2.frozen? ⟨s, 3, none⟩ = false := by rw [p2.fr, p1.fr]; exact fs
    have rb : W2.cell? ⟨b, 2, none⟩ = some vb := by rw [p2.old _ _ (.inl (Ne.symm hxb)), p1.old _ _ (.inl (Ne.symm hxb))]; exact qb
    have eb : W2.frozen? ⟨b, 2, none⟩ = false := by rw [p2.fr, p1.fr]; exact fb
    have p3 := Put.set W2 s 3 (.pointer (some ⟨x, 0, none⟩)) _ rs
    have rb' : (W2.setCell ⟨s, 3, none⟩ (.pointer (some ⟨x, 0, none⟩))).cell? ⟨b, 2, none⟩ = some vb := by rw [p3.old _ _ (.inr (by omega))]; exact rb
    have eb' : (W2.setCell ⟨s, 3, none⟩ (.pointer (some ⟨x, 0, none⟩))).frozen? ⟨b, 2, none⟩ = false := by rw [p3.fr]; exact eb
    go_wp2
    go_region
    all_goals go_wp2
    all_goals first | go_end0 | ((try simp only [Exit.inBlock, Exit.then]); refine bodyPost_ret (results_none rfl _ _ _) rfl ?_)
    all_goals exact ⟨rfl, W, _, W2, _, hk, p1, p2, p3, (Put.set _ b 2 _ vb rb').drew⟩)

/-- The ring of the links L, in this order, with its seam s. -/
structure Ring (w : World) (s : Nat) (L : List Nat) (N : Nat → Int) (D : Nat → ByteArray) (ah be : Nat → Nat) : Prop where
  rm : RM w (s :: L) N D ah be
  sg : Seg be ah s L s
  nd : (s :: L).Nodup
theorem Ring.kept {w w' : World} {s : Nat} {L : List Nat} {N : Nat → Int} {D : Nat → ByteArray} {ah be : Nat → Nat} {S : Nat → Prop} (h : Ring w s L N D ah be) (hk : Kp S w w') (hS : ∀ x ∈ s :: L, ¬ S x) : Ring w' s L N D ah be := ⟨h.rm.kept hk hS, h.sg, h.nd⟩
theorem leave_ring {w : World} {s x : Nat} {p q : List Nat} {N : Nat → Int} {D : Nat → ByteArray} {ah be : Nat → Nat} (h : Ring w s (p ++ x :: q) N D ah be) :
    Calls Try.prog 30 #[.pointer (some ⟨x, 0, none⟩)] w fun e w' => e = .returned (.tuple #[]) ∧ ∃ ah' be', Ring w' s (p ++ q) N D ah' be' ∧ Lk w' x (N x) (D x) (ah x) (be x) ∧ Kp (fun k => k ∈ s :: (p ++ q)) w w' ∧ w'.heap.size = w.heap.size := by
  have hx := h.rm x (by simp)
  have hs := (Seg.split q x p s s).1 h.sg
  have la := Seg.last p s x hs.1
  have fb := Seg.first hs.2
  have ma : ah x ∈ s :: (p ++ q) := by
    rcases List.mem_cons.1 la with e | e
    · rw [e]; exact List.mem_cons_self
    · exact List.mem_cons_of_mem _ (List.mem_append.2 (.inl e))
  have mb : be x ∈ s :: (p ++ q) := by
    rcases List.mem_append.1 fb with e | e
    · exact List.mem_cons_of_mem _ (List.mem_append.2 (.inr e))
    · have e' : be x = s := by simpa using e
      rw [e']; exact List.mem_cons_self
  have sub : ∀ z ∈ s :: (p ++ q), z ∈ s :: (p ++ x :: q) := fun z hz => by
    simp only [List.mem_cons, List.mem_append] at hz ⊢
    rcases hz with e | e | e
    · exact .inl e
    · exact .inr (.inl e)
    · exact .inr (.inr (.inr e))
  have hnx : x ∉ s :: (p ++ q) := by
    intro hz
    have hn := h.nd
    simp only [List.nodup_cons, List.nodup_append, List.mem_append, List.mem_cons] at hn hz
    rcases hz with e | e | e
    · exact hn.1 (.inr (.inl e.symm))
    · exact hn.2.2.2 x e x (.inl rfl) rfl
    · exact hn.2.2.1.1 e
  have ka := h.rm _ (sub _ ma)
  have kb := h.rm _ (sub _ mb)
  refine (link_leave x (ah x) (be x) w _ _ hx.c2 hx.c3 ka.c3 (ka.fr 3) kb.c2 (kb.fr 2)).mono ?_
  rintro e w' ⟨rfl, w1, p1, p2⟩
  have hst : ∀ z ∈ p ++ x :: q, z ≠ s := fun z hz e => by
    have := (List.nodup_cons.1 h.nd).1
    rw [e] at hz
    exact this hz
  have hk : Kp (fun k => k ∈ s :: (p ++ q)) w w' := p1.kp.trans p2.kp (fun k _ e => by rw [show k = ah x from e]; exact ma) (fun k _ e => by rw [show k = be x from e]; exact mb)
  refine ⟨rfl, _, _, ⟨(h.rm.sub sub).putB p1 |>.putA p2, Seg.leave x q s hs.2 p s hs.1 h.nd hst, ?_⟩, hx.kept hk hnx, hk, by rw [p2.sz, p1.sz]⟩
  exact h.nd.sublist (List.Sublist.cons_cons _ (List.Sublist.append (List.Sublist.refl _) (List.sublist_cons_self _ _)))
theorem join_ring0 {w : World} {s x : Nat} {L : List Nat} {N : Nat → Int} {D : Nat → ByteArray} {ah be : Nat → Nat} (h : Ring w s L N D ah be) (c0 : w.cell? ⟨x, 0, none⟩ = some (.int .i64 (N x))) (c1 : w.cell? ⟨x, 1, none⟩ = some (.string (D x)))
    {v2 v3 : Value} (c2 : w.cell? ⟨x, 2, none⟩ = some v2) (c3 : w.cell? ⟨x, 3, none⟩ = some v3) (cf : ∀ j, w.frozen? ⟨x, j, none⟩ = false) (cb : Cb w x) (hn : x ∉ s :: L) :
    Calls Try.prog 31 #[.agg #[.pointer (some ⟨s, 0, none⟩)], .pointer (some ⟨x, 0, none⟩)] w fun e w' => e = .returned (.tuple #[]) ∧ ∃ ah' be', Ring w' s (x :: L) N D ah' be' ∧ Kp (fun k => k ∈ s :: x :: L) w w' := by
  have hs := h.rm s (by simp)
  have mb : be s ∈ s :: L := by
    rcases List.mem_append.1 (Seg.first h.sg) with e | e
    · exact List.mem_cons_of_mem _ e
    · have e' : be s = s := by simpa using e
      rw [e']; exact List.mem_cons_self
  have kb := h.rm _ mb
  have hxs : x ≠ s := fun e => hn (by rw [e]; exact List.mem_cons_self)
  have hxb : x ≠ be s := fun e => hn (by rw [e]; exact mb)
  refine (link_join s x (be s) w _ _ _ hs.c3 (hs.fr 3) c2 (cf 2) c3 (cf 3) kb.c2 (kb.fr 2) hxs hxb).mono ?_
  rintro e w' ⟨rfl, w0, w1, w2, w3, hk, p1, p2, p3, p4⟩
  have hnd := List.nodup_cons.1 h.nd
  have r2 := ((h.rm.kept hk (fun _ _ h => h)).putA p1).putB p2
  have hx2 : Lk w2 x (N x) (D x) s (be s) := ⟨by rw [p2.old _ _ (.inr (by omega)), p1.old _ _ (.inr (by omega))]; exact hk.cell c0 (fun h => h), by rw [p2.old _ _ (.inr (by omega)), p1.old _ _ (.inr (by omega))]; exact hk.cell c1 (fun h => h),
    by rw [p2.old _ _ (.inr (by omega))]; exact p1.same, p2.same, fun j => by rw [p2.fr, p1.fr, hk.frozen (lt_of_cell c0) (fun h => h)]; exact cf j, p2.bl _ (p1.bl _ (cb.kept hk (fun h => h)))⟩
  have all : RM w2 (s :: x :: L) N D (updN ah x s) (updN be x (be s)) := fun z hz => by
    by_cases e : z = x
    · subst e; rw [updN_same, updN_same]; exact hx2
    · refine r2 z ?_
      simp only [List.mem_cons] at hz ⊢
      rcases hz with h1 | h1 | h1
      · exact .inl h1
      · exact absurd h1 e
      · exact .inr h1
  refine ⟨rfl, _, _, ⟨(all.putB p3).putA p4, Seg.join h.sg hn hnd.1 hnd.2, ?_⟩, ?_⟩
  · simp only [List.nodup_cons, List.mem_cons, not_or] at hnd hn ⊢
    exact ⟨⟨Ne.symm hxs, hnd.1⟩, hn.2, hnd.2⟩
  · have m1 : x ∈ s :: x :: L := by simp
    have m2 : s ∈ s :: x :: L := by simp
    have m3 : be s ∈ s :: x :: L := by
      simp only [List.mem_cons] at mb ⊢
      rcases mb with h1 | h1
      · exact .inl h1
      · exact .inr (.inr h1)
    exact (((hk.mono (fun _ _ h => h.elim)).then (p1.kp.mono (fun k _ e => by rw [show k = x from e]; exact m1))).then (p2.kp.mono (fun k _ e => by rw [show k = x from e]; exact m1))).then (p3.kp.mono (fun k _ e => by rw [show k = s from e]; exact m2)) |>.then (p4.kp.mono (fun k _ e => by rw [show k = be s from e]; exact m3))
theorem join_ring {w : World} {s x a b : Nat} {L : List Nat} {N : Nat → Int} {D : Nat → ByteArray} {ah be : Nat → Nat} (h : Ring w s L N D ah be) (hx : Lk w x (N x) (D x) a b) (hn : x ∉ s :: L) :
    Calls Try.prog 31 #[.agg #[.pointer (some ⟨s, 0, none⟩)], .pointer (some ⟨x, 0, none⟩)] w fun e w' => e = .returned (.tuple #[]) ∧ ∃ ah' be', Ring w' s (x :: L) N D ah' be' ∧ Kp (fun k => k ∈ s :: x :: L) w w' := join_ring0 h hx.c0 hx.c1 hx.c2 hx.c3 hx.fr hx.bl hn

end Go.Proofs.Ytcfhgfelmofgjaa
