/- Contracts, over the turned program: the small functions of the laws of package space. Conditions: those that each theorem states. -/
import Derived.Test.YtmnedhlgplkfhaaJS3
import Derived.Test.YtmnedhlgplkfhaaJK2
import Derived.Test.YtmnedhlgplkfhaaJK3
namespace Go.Proofs.Ytmnedhlgplkfhaa
open Go.RowKit
set_option linter.unusedVariables false

set_option maxHeartbeats 400000 in
theorem spages_any (n : Int) (w : World) : Calls Try.prog 5 #[.int .i64 n] w fun e w' => e = .returned (.int .i64 (pagesN n : Int)) ∧ w' = w := by
  go_enter Try.func5, Try.ntmps5
  go_wp2
  go_ret
  refine ⟨reti ?_, rfl⟩
  have e : IntKind.u64.wrap n = n % 18446744073709551616 := by rfl
  rw [e, Int.tmod_eq_emod_of_nonneg (by omega)]
  unfold pagesN wrap64
  omega
/-- A step: its kind, a page or a note, a byte. -/
structure Sop where
  k : Int
  n : Int
  b : UInt8
def Sop.cells (o : Sop) : Array Value := #[.int .i64 o.k, .int .i64 o.n, .int .u8 (o.b.toNat : Int)]
def Sop.kind (o : Sop) : Int := o.k % 8
theorem Sop.kinds (o : Sop) : o.kind = 0 ∨ o.kind = 1 ∨ o.kind = 2 ∨ o.kind = 3 ∨ o.kind = 4 ∨ o.kind = 5 ∨ o.kind = 6 ∨ o.kind = 7 := by unfold Sop.kind; omega
/-- So many bytes of one kind. -/
def fillN (c : UInt8) (n : Nat) : ByteArray := ⟨(List.replicate n c).toArray⟩
theorem fillN_size (c : UInt8) (n : Nat) : (fillN c n).size = n := by
  show (List.replicate n c).toArray.size = n
  simp
set_option maxRecDepth 100000 in
set_option maxHeartbeats 800000 in
theorem sfresh_any (n : Nat) (w : World) (h1 : 1 ≤ n) (h2 : n ≤ 160) :
    Calls Try.prog 7 #[.int .i64 (n : Int)] w fun e w' => ∃ (q : Cq) (D : Dv), e = .returned (.pointer (some ⟨q.c, 0, none⟩)) ∧ q.n = n ∧ q.sz = 4 ∧ D.st = false ∧ Cas w' q (fun k => w.heap.size ≤ k) D (fun _ => fillB 0) 0 0 [] 0 0 ∧ Kp none' w w' := by
  have HW : Hid (wrap64 (126 + 4 * (n : Int)) = 126 + 4 * (n : Int)) := by show _ = _; unfold wrap64; omega
  have HO : Hid (∀ (w1 : World) (p : Dp), Dev w1 p (fresh (newN (126 + 4 * (n : Int)))) → Calls Try.prog 14 #[.pointer (some ⟨p.d, 0, none⟩), .int .i64 (n : Int)] w1 fun e w' => ∃ g, e = .returned (.tuple #[.pointer (some ⟨g, 0, none⟩), .int .i64 0]) ∧ Rest w' p (fresh (126 + 4 * n)) n (fun _ => fillB 0) 0 ∧ Pag w' g p n 0 (.slice none 0 0) [] ∧ w1.heap.size ≤ g ∧ Kp p.mem w1 w') := fun w1 p hD => rest_open (rest_new h2 hD) (by omega) h1 h2
  go_enter Try.func7, Try.ntmps7
  go_wp2_with (first
    | (go_at_call 16; refine (need_any _ _).mono ?_; rintro e w' ⟨rfl, rfl⟩; rw [HW.out])
    | (go_at_call 15; refine (new_any _ _).mono ?_; rintro e w1 ⟨p, rfl, hD1, hk1, hm1⟩)
    | (go_at_call 14; refine (HO.out w1 p hD1).mono ?_; rintro e w2 ⟨g, rfl, hR2, hP2, hg2, hk2⟩)
    | (go_at_call 17; refine (cnew_any 4 hR2 rfl hP2 (by omega) (fun _ => fillB_size 0)).mono ?_; rintro e w3 ⟨q, rfl, hq1, hq2, hq3, hq4, hC3, hk3⟩)
    | fail)
  go_ret
  have hkN := kpN hk1 hk2 hm1
  refine ⟨q, _, rfl, hq1, by rw [hq2]; rfl, rfl, hC3.mono (fun k _ hk => ?_), hkN.then hk3⟩
  have hs1 := hk1.size
  have hs2 := hkN.size
  rcases hk with h | h | h
  · exact hm1 k h
  · omega
  · omega

end Go.Proofs.Ytmnedhlgplkfhaa
