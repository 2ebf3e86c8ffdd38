/- Contracts, over the turned program: a ring that is new, its last link, a value put into it, each link in turn. Conditions: those that each theorem states. -/
import Derived.Test.YtcfhgfelmofgjaaCRing
import Derived.Shelf.Abstract
import Derived.Lib.Builder
namespace Go.Proofs.Ytcfhgfelmofgjaa
open Go.RowKit
set_option linter.unusedVariables false

set_option maxRecDepth 100000 in
set_option maxHeartbeats 400000 in
theorem link_last (s a : Nat) (w : World) (h2 : w.cell? ⟨s, 2, none⟩ = some (.pointer (some ⟨a, 0, none⟩))) :
    Calls Try.prog 45 #[.agg #[.pointer (some ⟨s, 0, none⟩)]] w fun e w' => e = .returned (.pointer (some ⟨a, 0, none⟩)) ∧ Kp none' w w' := by
  have hk := Kp.alloc none' w (.cells #[.pointer (some ⟨s, 0, none⟩)] 44)
  have hg := new_cell w #[.pointer (some ⟨s, 0, none⟩)] 44 0 _ rfl
  have h2' := hk.cell h2 (fun h => h)
  go_enter Try.func45, Try.ntmps45
  go_wp2
  go_ret
  exact ⟨rfl, hk⟩
theorem last_ring {w : World} {s x : Nat} {L : List Nat} {N : Nat → Int} {D : Nat → ByteArray} {ah be : Nat → Nat} (h : Ring w s (L ++ [x]) N D ah be) :
    Calls Try.prog 45 #[.agg #[.pointer (some ⟨s, 0, none⟩)]] w fun e w' => e = .returned (.pointer (some ⟨x, 0, none⟩)) ∧ Kp none' w w' := by
  have := (h.rm s (by simp)).c2
  rw [Seg.back h.sg] at this
  exact link_last s x w this
/-- Another value of a function of links. -/
def updF' {α : Type} (f : Nat → α) (i : Nat) (x : α) : Nat → α := fun k => if k = i then x else f k
theorem RM.congr {w : World} {B : List Nat} {N N' : Nat → Int} {D D' : Nat → ByteArray} {ah be : Nat → Nat} (h : RM w B N D ah be) (hN : ∀ x ∈ B, N' x = N x) (hD : ∀ x ∈ B, D' x = D x) : RM w B N' D' ah be := fun x hx => by
  rw [hN x hx, hD x hx]; exact h x hx
set_option maxRecDepth 100000 in
set_option maxHeartbeats 800000 in
theorem put_ring {w : World} {s : Nat} {L : List Nat} {N : Nat → Int} {D : Nat → ByteArray} {ah be : Nat → Nat} (n : Int) (d : ByteArray) (h : Ring w s L N D ah be) :
    Calls Try.prog 35 #[.agg #[.pointer (some ⟨s, 0, none⟩)], .agg #[.int .i64 n, .string d]] w fun e w' => ∃ x ah' be', e = .returned (.pointer (some ⟨x, 0, none⟩)) ∧ w.heap.size ≤ x ∧ Ring w' s (x :: L) (updF' N x n) (updF' D x d) ah' be' ∧ Kp (fun k => k ∈ s :: L) w w' := by
  have k1 := Kp.alloc none' w (.cells #[.pointer (some ⟨s, 0, none⟩)] 44)
  have r1 := new_cell w #[.pointer (some ⟨s, 0, none⟩)] 44 0 _ rfl
  have e1 : (w.alloc (.cells #[.pointer (some ⟨s, 0, none⟩)] 44)).heap.size = w.heap.size + 1 := by simp
  obtain ⟨W1, H1⟩ : ∃ W1, Hid (w.alloc (.cells #[.pointer (some ⟨s, 0, none⟩)] 44) = W1) := ⟨_, rfl⟩
  rw [H1.out] at k1 r1 e1
  have k2 := Kp.alloc none' W1 (.cells #[.int .i64 n, .string d] 47)
  have e2 : (W1.alloc (.cells #[.int .i64 n, .string d] 47)).heap.size = w.heap.size + 1 + 1 := by simp [e1]
  obtain ⟨W2, H2⟩ : ∃ W2, Hid (W1.alloc (.cells #[.int .i64 n, .string d] 47) = W2) := ⟨_, rfl⟩
  rw [H2.out] at k2 e2
  have k3 := Kp.alloc none' W2 (.cells #[.int .i64 n, .string d, .pointer none, .pointer none] 61)
  have c0 := new_cell W2 #[.int .i64 n, .string d, .pointer none, .pointer none] 61 0 _ rfl
  have c1 := new_cell W2 #[.int .i64 n, .string d, .pointer none, .pointer none] 61 1 _ rfl
  have c2 := new_cell W2 #[.int .i64 n, .string d, .pointer none, .pointer none] 61 2 _ rfl
  have c3 := new_cell W2 #[.int .i64 n, .string d, .pointer none, .pointer none] 61 3 _ rfl
  have cf := new_frozen W2 #[.int .i64 n, .string d, .pointer none, .pointer none] 61
  have cb : Cb (W2.alloc (.cells #[.int .i64 n, .string d, .pointer none, .pointer none] 61)) W2.heap.size := ⟨_, _, heap_alloc_new W2 _⟩
  rw [e2] at c0 c1 c2 c3 cf cb
  obtain ⟨x, HX⟩ : ∃ x, Hid (w.heap.size + 1 + 1 = x) := ⟨_, rfl⟩
  rw [HX.out] at c0 c1 c2 c3 cf cb
  obtain ⟨W3, H3⟩ : ∃ W3, Hid (W2.alloc (.cells #[.int .i64 n, .string d, .pointer none, .pointer none] 61) = W3) := ⟨_, rfl⟩
  rw [H3.out] at k3 c0 c1 c2 c3 cf cb
  have kw := (k1.then k2).then k3
  have hx : w.heap.size ≤ x := by have := HX.out; omega
  have hxl : x ∉ s :: L := fun hm => by
    have := (h.rm x hm).lt
    omega
  have r1' := (k2.then k3).cell r1 (fun h => h)
  have hR := h.kept kw (fun _ _ h => h)
  have hN : ∀ z ∈ s :: L, updF' N x n z = N z := fun z hz => by unfold updF'; rw [if_neg (fun e => hxl (by rw [← e]; exact hz))]
  have hD : ∀ z ∈ s :: L, updF' D x d z = D z := fun z hz => by unfold updF'; rw [if_neg (fun e => hxl (by rw [← e]; exact hz))]
  have hR' : Ring W3 s L (updF' N x n) (updF' D x d) ah be := ⟨hR.rm.congr hN hD, hR.sg, hR.nd⟩
  have hj := join_ring0 hR' (by show W3.cell? ⟨x, 0, none⟩ = _; rw [c0]; simp [updF']) (by rw [c1]; simp [updF']) c2 c3 cf cb hxl
  go_enter Try.func35, Try.ntmps35
  go_upto_region 2 with fail
  rw [H1.out, H2.out, H3.out, HX.out]
  go_wp2_with (first
    | (go_at_call 31; refine hj.mono ?_; rintro e w4 ⟨rfl, ah4, be4, hR4, hk4⟩)
    | fail)
  go_ret
  exact ⟨x, ah4, be4, rfl, hx, hR4, kw.trans hk4 (fun _ _ h => h.elim) (fun k hk hm => by
    simp only [List.mem_cons] at hm ⊢
    rcases hm with e | e | e
    · exact .inl e
    · omega
    · exact .inr e)⟩
theorem results_ring {fn : Func} {p : Tmp} (h : fn.results = #[.cell p 44]) (tmps : Array Value) (g : Nat) (W : World) (s : Nat) (hp : tmps.getD p undef = .pointer (some ⟨g, 0, none⟩)) (hb : W.heap[g]? = some (.cells #[.pointer (some ⟨s, 0, none⟩)] 44 (0, 0))) :
    (results fn tmps).run Try.prog W = .ok (.agg #[.pointer (some ⟨s, 0, none⟩)]) W := by
  exact results_cell_row h tmps W g _ _ _ _ hp hb Try.underlying44 rfl (by kernel_rfl)
set_option maxRecDepth 100000 in
set_option maxHeartbeats 400000 in
theorem newRing_any (w : World) :
    Calls Try.prog 15 #[] w fun e w' => ∃ s, e = .returned (.agg #[.pointer (some ⟨s, 0, none⟩)]) ∧ w.heap.size ≤ s ∧ Ring w' s [] (fun _ => 0) (fun _ => ⟨#[]⟩) (fun _ => s) (fun _ => s) ∧ Kp none' w w' := by
  go_enter Try.func15, Try.ntmps15
  go_wp2
  have k1 := Kp.alloc none' w (.cells #[.pointer (some ⟨w.heap.size + 1, 0, none⟩)] 44)
  have r1 : (w.alloc (.cells #[.pointer (some ⟨w.heap.size + 1, 0, none⟩)] 44)).heap[w.heap.size]? = some (.cells #[.pointer (some ⟨w.heap.size + 1, 0, none⟩)] 44 (0, 0)) := heap_alloc_new w _
  have e1 : (w.alloc (.cells #[.pointer (some ⟨w.heap.size + 1, 0, none⟩)] 44)).heap.size = w.heap.size + 1 := by simp
  obtain ⟨W1, H1⟩ : ∃ W1, Hid (w.alloc (.cells #[.pointer (some ⟨w.heap.size + 1, 0, none⟩)] 44) = W1) := ⟨_, rfl⟩
  rw [H1.out] at k1 r1 e1 ⊢
  have k3 := Kp.alloc none' W1 (.cells #[.int .i64 0, .string ⟨#[]⟩, .pointer (some ⟨w.heap.size + 1, 0, none⟩), .pointer (some ⟨w.heap.size + 1, 0, none⟩)] 61)
  have c0 := new_cell W1 #[.int .i64 0, .string ⟨#[]⟩, .pointer (some ⟨w.heap.size + 1, 0, none⟩), .pointer (some ⟨w.heap.size + 1, 0, none⟩)] 61 0 _ rfl
  have c1 := new_cell W1 #[.int .i64 0, .string ⟨#[]⟩, .pointer (some ⟨w.heap.size + 1, 0, none⟩), .pointer (some ⟨w.heap.size + 1, 0, none⟩)] 61 1 _ rfl
  have c2 := new_cell W1 #[.int .i64 0, .string ⟨#[]⟩, .pointer (some ⟨w.heap.size + 1, 0, none⟩), .pointer (some ⟨w.heap.size + 1, 0, none⟩)] 61 2 _ rfl
  have c3 := new_cell W1 #[.int .i64 0, .string ⟨#[]⟩, .pointer (some ⟨w.heap.size + 1, 0, none⟩), .pointer (some ⟨w.heap.size + 1, 0, none⟩)] 61 3 _ rfl
  have cf := new_frozen W1 #[.int .i64 0, .string ⟨#[]⟩, .pointer (some ⟨w.heap.size + 1, 0, none⟩), .pointer (some ⟨w.heap.size + 1, 0, none⟩)] 61
  have cb : Cb (W1.alloc (.cells #[.int .i64 0, .string ⟨#[]⟩, .pointer (some ⟨w.heap.size + 1, 0, none⟩), .pointer (some ⟨w.heap.size + 1, 0, none⟩)] 61)) W1.heap.size := ⟨_, _, heap_alloc_new W1 _⟩
  rw [e1] at c0 c1 c2 c3 cf cb
  have r1' := k3.block w.heap.size (by omega) (fun h => h)
  rw [r1] at r1'
  obtain ⟨W3, H3⟩ : ∃ W3, Hid (W1.alloc (.cells #[.int .i64 0, .string ⟨#[]⟩, .pointer (some ⟨w.heap.size + 1, 0, none⟩), .pointer (some ⟨w.heap.size + 1, 0, none⟩)] 61) = W3) := ⟨_, rfl⟩
  rw [H3.out] at k3 c0 c1 c2 c3 cf cb r1' ⊢
  refine bodyPost_ret (results_ring rfl _ w.heap.size _ (w.heap.size + 1) rfl r1') rfl ?_
  refine ⟨w.heap.size + 1, rfl, by omega, ⟨fun x hx => ?_, ⟨rfl, rfl⟩, by simp⟩, k1.then k3⟩
  have : x = w.heap.size + 1 := by simpa using hx
  subst this
  exact ⟨c0, c1, c2, c3, cf, cb⟩
/-- What comes next: the first of q, else s. -/
def nx (q : List Nat) (s : Nat) : Nat := match q with
  | [] => s
  | x :: _ => x
theorem Seg.nx {be ah : Nat → Nat} {x y : Nat} {l : List Nat} (h : Seg be ah x l y) : be x = nx l y := by
  cases l with
  | nil => exact h.1
  | cons a l => exact h.1
theorem idx_at {p q : List Nat} {x : Nat} (h : (p ++ x :: q).Nodup) : (p ++ x :: q).idxOf x = p.length := by
  have hx : x ∉ p := fun hm => by
    rw [List.nodup_append] at h
    exact h.2.2 x hm x List.mem_cons_self rfl
  rw [List.idxOf_append, if_neg hx]
  simp
theorem idx_out {L : List Nat} {s : Nat} (h : s ∉ L) : L.idxOf s = L.length := List.idxOf_eq_length h
theorem idx_nx {p q : List Nat} {s : Nat} (h : (p ++ q).Nodup) (hs : s ∉ p ++ q) : (p ++ q).idxOf (nx q s) = p.length := by
  cases q with
  | nil => show (p ++ []).idxOf s = _; rw [idx_out hs]; simp
  | cons x q => exact idx_at h
theorem infoLk : (Try.prog.info? 61).map (·.size) = some 4 := by kernel_rfl
theorem neq_ptr {w : World} {x s : Nat} (hx : Cb w x) (hs : Cb w s) (h : x ≠ s) : (binOp .neq 42 (.pointer (some ⟨x, 0, none⟩)) (.pointer (some ⟨s, 0, none⟩))).run Try.prog w = .ok (.bool true) w := by
  obtain ⟨i, hi, hz⟩ := Option.map_eq_some_iff.1 infoLk
  obtain ⟨ca, ta, ha⟩ := hx
  obtain ⟨cb, tb, hb⟩ := hs
  have hsz : i.size ≠ 0 := by rw [hz]; omega
  have hne : (⟨x, 0, none⟩ : Addr) ≠ ⟨s, 0, none⟩ := fun e => h (congrArg Addr.block e)
  have hq : ∀ d : Nat, (Op.equalIn (d + 1) 42 (.pointer (some ⟨x, 0, none⟩)) (.pointer (some ⟨s, 0, none⟩))).run Try.prog w = .ok false w := fun d => by
    simp [Op.equalIn, run_underlying Try.underlying42, sizeOf, typeInfo, hi, hsz, run_sameAddr_other w hne ha hb]
  simp only [binOp]
  simp [Op.equal, Op.maxDepth, hq 9999]
theorem neq_same (w : World) (s : Nat) : (binOp .neq 42 (.pointer (some ⟨s, 0, none⟩)) (.pointer (some ⟨s, 0, none⟩))).run Try.prog w = .ok (.bool false) w := by
  obtain ⟨i, hi, hz⟩ := Option.map_eq_some_iff.1 infoLk
  exact Go.Lib.run_neq_ptr_same w _ Try.underlying42 hi
/-- The block that a pointer names. -/
def blkOf (v : Value) : Nat := match v with
  | .pointer (some a) => a.block
  | _ => 0
set_option maxRecDepth 100000 in
set_option maxHeartbeats 800000 in
theorem each_any {w : World} {s : Nat} {L : List Nat} {N : Nat → Int} {D : Nat → ByteArray} {ah be : Nat → Nat} (I : List Nat → World → Prop) (m : Nat) (cap : Array Value) (hent : ∀ args W, (callFunc m args).run Try.prog W = .ok (.enter m args) W)
    (h0 : Ring w s L N D ah be) (hI0 : ∀ W, Kp none' w W → w.heap.size < W.heap.size → I [] W) (hR : ∀ p W, I p W → RM W (s :: L) N D ah be)
    (hf : ∀ p x q W, L = p ++ x :: q → I p W → Calls Try.prog m (#[.pointer (some ⟨x, 0, none⟩)] ++ cap) W fun e W' => e = .returned (.tuple #[]) ∧ I (p ++ [x]) W' ∧ W'.cell? ⟨w.heap.size, 0, none⟩ = W.cell? ⟨w.heap.size, 0, none⟩) :
    Calls Try.prog 24 #[.agg #[.pointer (some ⟨s, 0, none⟩)], .func (.func m) #[] cap] w fun e w' => e = .returned (.tuple #[]) ∧ I L w' := by
  have k1 := Kp.alloc none' w (.cells #[.pointer (some ⟨s, 0, none⟩)] 44)
  have r1 := new_cell w #[.pointer (some ⟨s, 0, none⟩)] 44 0 _ rfl
  obtain ⟨g, HG⟩ : ∃ g, Hid (w.heap.size = g) := ⟨_, rfl⟩
  rw [HG.out] at r1 hf
  have hnd := List.nodup_cons.1 h0.nd
  have hsg := h0.sg
  have hI1 := hI0 _ k1 (by simp)
  have hs3 := (hR _ _ hI1 s (by simp)).c3
  rw [Seg.nx hsg] at hs3
  go_enter Try.func24, Try.ntmps24
  go_upto_region 1 with fail
  rw [HG.out]
  obtain ⟨W1, H1⟩ : ∃ W1, Hid (w.alloc (.cells #[.pointer (some ⟨s, 0, none⟩)] 44) = W1) := ⟨_, rfl⟩
  rw [H1.out] at k1 r1 hI1 hs3 ⊢
  have HI0 := hide hI0
  have HF := hide hf
  have HR := hide hR
  clear hI0 hf hR
  go_wp2
  go_loopw [4] (fun t wr => ∃ p q, L = p ++ q ∧ t = .pointer (some ⟨nx q s, 0, none⟩) ∧ I p wr ∧ wr.cell? ⟨g, 0, none⟩ = some (.pointer (some ⟨s, 0, none⟩))) (fun t _ => L.length - L.idxOf (blkOf t))
  case atStart => exact ⟨[], L, rfl, rfl, hI1, r1⟩
  case round =>
    obtain ⟨p, q, hL, rfl, hI, hc⟩ := hrel
    have HL := hide hL
    clear hL
    cases q with
    | nil =>
      have e : nx [] s = s := rfl
      rw [e] at *
      have hq := neq_same wr s
      go_wp2
      first | go_end0 | ((try simp only [Exit.inBlock, Exit.then]); refine bodyPost_ret (results_none rfl _ _ _) rfl ?_)
      have hL := HL.out
      rw [List.append_nil] at hL
      exact ⟨rfl, by first | exact hI | (rw [hL]; exact hI)⟩
    | cons x q =>
      have e : nx (x :: q) s = x := rfl
      rw [e] at *
      have hxs : x ≠ s := fun e => hnd.1 (by rw [HL.out, ← e]; simp)
      have hcall := HF.out p x q wr HL.out hI
      have hsx : Seg be ah x q s := by
        rw [HL.out] at hsg
        exact ((Seg.split q x p s s).1 hsg).2
      have hnxt := Seg.nx hsx
      have HR3 : Hid (∀ W, I (p ++ [x]) W → W.cell? ⟨x, 3, none⟩ = some (.pointer (some ⟨nx q s, 0, none⟩))) := fun W hW => by
        have := (HR.out _ W hW x (by rw [HL.out]; simp)).c3
        rw [hnxt] at this
        exact this
      clear hsx hnxt
      have hq := neq_ptr (HR.out _ _ hI x (by rw [HL.out]; simp)).bl (HR.out _ _ hI s (by simp)).bl hxs
      go_wp2_with (first
        | (refine hcall.mono ?_; rintro e w2 ⟨rfl, hI2, hc2⟩; rw [hc] at hc2; have hx3 := HR3.out w2 hI2)
        | fail)
      go_roundw
      case rel => exact ⟨p ++ [x], q, by rw [HL.out]; simp, rfl, hI2, hc2⟩
      case measure =>
        have hL := HL.out
        have hn2 := hnd.2
        rw [hL] at hn2
        have i1 : L.idxOf x = p.length := by rw [hL]; exact idx_at hn2
        have i2 : L.idxOf (nx q s) = p.length + 1 := by
          have := idx_nx (p := p ++ [x]) (q := q) (s := s) (by simpa using hn2) (by have := hnd.1; rw [hL] at this; simpa using this)
          rw [show (p ++ [x]) ++ q = L by rw [hL]; simp] at this
          rw [this]; simp
        have i3 : L.length = p.length + 1 + q.length := by rw [hL]; simp; omega
        show L.length - L.idxOf (nx q s) < L.length - L.idxOf x
        omega

end Go.Proofs.Ytcfhgfelmofgjaa
