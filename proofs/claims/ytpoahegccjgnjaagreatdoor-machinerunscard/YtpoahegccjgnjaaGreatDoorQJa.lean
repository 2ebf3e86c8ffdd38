/- Contracts, over the turned program: slices.Clone of at most three numbers, check.Registers and leads, and the document's Registers, answer as the chapter says of one instruction. Conditions: those that each theorem states. Contracts, over the turned program: check.leads tells where an instruction goes on, the document's Registers which registers it names. Conditions: those that each theorem states. Contract, over the turned program: the document's Registers tells which registers an instruction names. Conditions: those that each theorem states. -/
import Derived.Test.YtpoahegccjgnjaaGreatDoorQA
import Derived.Lib.SliceRun
import Derived.Lib.Walk
namespace Go.Proofs.YtpoahegccjgnjaaGreatDoor
open Go.RowKit
set_option linter.unusedVariables false

theorem nOpI_eq (op : Int) : nOpI op = (nOps op : Int) := by
  unfold nOpI
  split
  · rfl
  · next h =>
    have h1 : ¬ (1 ≤ op ∧ op ≤ 19) := fun hh => h (decide_eq_true hh)
    have e : nOps op = 0 := by
      unfold nOps
      by_cases h2 : op < 1
      · rw [show op.toNat = 0 by omega]; rfl
      · have h3 : 20 ≤ op.toNat := by omega
        rw [List.getD_eq_getElem?_getD, List.getElem?_eq_none (by simpa [tabO] using h3)]
        rfl
    rw [e]
    rfl
theorem Sl.srcI {w : World} {B : Nat} {v : Value} {l : List Int} (h : Sl (Value.int .i64) B w v l) : Src Tryz.prog 1 82 v l.length (l.map (Value.int .i64)) w := by
  obtain ⟨a', c', h0, h1, h2, h3⟩ := h
  subst h0
  cases a' with
  | none =>
    cases l with
    | nil => exact Src.ofNil w Tryz.underlying82 c'
    | cons z l => obtain ⟨b, off, ha, _⟩ := h3 0 (by simp); cases ha
  | some a =>
    refine Src.ofSlice (e' := 3) w Tryz.underlying82 a _ _ _ (by simp) (fun j u hu => ?_) (by intro u hu; obtain ⟨z, _, rfl⟩ := List.mem_map.1 hu; rfl)
    have hj : j < l.length := by have := (List.getElem?_eq_some_iff.1 hu).1; simpa using this
    obtain ⟨b, off, ha, _, hc⟩ := h3 j hj
    cases ha
    rw [addr_plainI]
    rw [hc]
    simp [hj] at hu
    rw [hu]

set_option maxRecDepth 100000 in
set_option maxHeartbeats 1000000 in
theorem qclone_any (a : Addr) (n c : Nat) (l : List Int) (B : Nat) (w : World) (h : Sl (Value.int .i64) B w (.slice (some a) n c) l) (hB : B ≤ w.heap.size) (hl : l.length ≤ 3) :
    Calls Tryz.prog 104 #[.slice (some a) n c] w fun e w' => ∃ v', e = .returned v' ∧ Ow (Value.int .i64) 3 w' w.heap.size v' l ∧ w.grownBy w' none := by
  have q22 : ∀ (w : World) (a : Option Addr) (n c n' c' : Nat), (binOp .eql 82 (.slice a n c) (.slice none n' c')).run Tryz.prog w = .ok (.bool a.isNone) w := fun w a n c n' c' => Lib.run_eql_slice_nil w _ _ a n c n' c' Tryz.underlying82
  have hg0 := World.grownBy_alloc w (.cells #[] 3) none
  have hs := (h.keptN (Kp.ofN hg0 none')).srcI
  have hO : (w.alloc (.cells #[] 3)).ownsRow w.heap.size 3 1 (.slice (some ⟨w.heap.size, 0, none⟩) 0 0) 0 [] := World.ownsRow_made w #[] 0 (Nat.le_refl _) (Nat.zero_le _) rfl
  obtain ⟨v', w', hr, hO', hg', _⟩ := iapp_row 82 3 82 _ 1 8 Tryz.underlying82 infoI rfl (by omega) _ _ _ _ _ _ _ _ hO hs (by simp) (by omega)
  go_enter Tryz.func104, Tryz.ntmps104
  go_wp2_with (at_builtin; refine iwpList_app_at rfl (.tmp 5) (.tmp 6) 82 82 rfl _ _ rfl rfl hr ?_)
  go_ret
  refine ⟨v', rfl, ?_, ?_⟩
  · unfold Ow
    simpa using hO'
  · exact grown_new hg0 hg' (fun k hk => by simp [Value.ownBlock] at hk; omega)

theorem Ab.new (w : World) (x y z : Int) : Ab (w.alloc (.cells #[.int .i64 x, .int .i64 y, .int .i64 z] 125)) w.heap.size x y z := heap_alloc_new w _
/-- Some of the three numbers that lie in a block. -/
theorem Ab.sl {w : World} {g : Nat} {x y z : Int} (h : Ab w g x y z) (o n c : Nat) (l : List Int) (hl : l = ([x, y, z].drop o).take n) (hn : l.length = n) (hc : n ≤ c) (hc3 : c ≤ 3) : Sl (Value.int .i64) w.heap.size w (.slice (some ⟨g, o, none⟩) n c) l := by
  refine ⟨some ⟨g, o, none⟩, c, by rw [hn], by omega, by unfold maxLen; omega, fun i hi => ⟨g, o, rfl, h.lt, ?_⟩⟩
  obtain ⟨c0, c1, c2⟩ := h.cs
  subst hl
  have hlen : (([x, y, z].drop o).take n).length = min n (3 - o) := by simp
  have hio : o + i < 3 := by omega
  have e : (([x, y, z].drop o).take n)[i] = [x, y, z][o + i] := by rw [List.getElem_take, List.getElem_drop]
  rw [e]
  generalize o + i = j at *
  rcases (by omega : j = 0 ∨ j = 1 ∨ j = 2) with rfl | rfl | rfl
  · exact c0
  · exact c1
  · exact c2
theorem regs_skip (x : In) (n : Nat) (h : skipA x.op = true) (hn : nOps x.op = n) : regsI x = ([x.a, x.b, x.c].drop 1).take (n - 1) := by
  unfold regsI opL
  rw [h, hn, if_pos rfl, List.drop_take]
theorem regs_all (x : In) (n : Nat) (h : skipA x.op = false) (hn : nOps x.op = n) : regsI x = ([x.a, x.b, x.c].drop 0).take n := by
  unfold regsI opL
  rw [h, hn]
  rfl
theorem skip_pos (op : Int) (h : skipA op = true) : 1 ≤ nOps op := by
  unfold skipA at h
  simp only [Bool.or_eq_true, beq_iff_eq] at h
  rcases h with (rfl | rfl) | rfl <;> decide

set_option maxRecDepth 100000 in
set_option maxHeartbeats 1000000 in
theorem qregs_any (x : In) (w : World) (hG : Glob w) :
    Calls Tryz.prog 88 #[x.val] w fun e w' => ∃ v', e = .returned v' ∧ Sl (Value.int .i64) w'.heap.size w' v' (regsI x) ∧ w.grownBy w' none := by
  have hb := Ib.new w x
  have hg0 := World.grownBy_alloc w (.cells #[.int .i64 x.op, .int .i64 x.a, .int .i64 x.b, .int .i64 x.c, .int .i64 x.v.k, .int .i64 x.v.n, .string x.v.s] 44) none
  have hG0 := hG.keptN hg0
  obtain ⟨R, HR⟩ : ∃ R, Hid (regsI x = R) := ⟨_, rfl⟩
  rw [HR.out]
  have Hop := hide (nOpI_eq x.op)
  obtain ⟨n, HN⟩ : ∃ n, Hid (nOps x.op = n) := ⟨_, rfl⟩
  have hn3 : n ≤ 3 := by have := HN.out; have := nOps_le x.op; omega
  have HA := hide (Ab.new (w.alloc (.cells #[.int .i64 x.op, .int .i64 x.a, .int .i64 x.b, .int .i64 x.c, .int .i64 x.v.k, .int .i64 x.v.n, .string x.v.s] 44)) x.a x.b x.c)
  rw [show (w.alloc (.cells #[.int .i64 x.op, .int .i64 x.a, .int .i64 x.b, .int .i64 x.c, .int .i64 x.v.k, .int .i64 x.v.n, .string x.v.s] 44)).heap.size = w.heap.size + 1 by simp] at HA
  have hga := grown_up hg0 (World.grownBy_alloc (w.alloc (.cells #[.int .i64 x.op, .int .i64 x.a, .int .i64 x.b, .int .i64 x.c, .int .i64 x.v.k, .int .i64 x.v.n, .string x.v.s] 44)) (.cells #[.int .i64 x.a, .int .i64 x.b, .int .i64 x.c] 125) none)
  obtain ⟨c0, c1, c2, c3, c4, c5, c6⟩ := hb.cs
  unfold In.val
  cases hs : skipA x.op with
  | true =>
    have Hn1 : Hid (1 ≤ n) := by show _ ≤ _; rw [← HN.out]; exact skip_pos _ hs
    have HR2 : Hid (R = ([x.a, x.b, x.c].drop 1).take (n - 1)) := by show _ = _; rw [← HR.out]; exact regs_skip x n hs HN.out
    have HRl : Hid (R.length = n - 1) := by have := Hn1.out; show _ = _; rw [HR2.out]; simp; omega
    have Ho : Hid (∀ W, Calls Tryz.prog 103 #[.int .i64 x.op] W fun e w' => e = .returned (.bool true) ∧ w' = W) := fun W => by rw [← hs]; exact qother_any x W
    clear hs
    have HS := hide (HA.out.sl 1 (n - 1) 2 R HR2.out HRl.out (by omega) (by omega))
    have HRl3 : Hid (R.length ≤ 3) := by show _ ≤ _; rw [HRl.out]; omega
    go_enter Tryz.func88, Tryz.ntmps88
    go_wp2_with fail
    refine (operands_any x.op _ hG0).mono ?_
    rintro e w1 ⟨rfl, hw1⟩
    obtain rfl := hw1.symm
    rw [Hop.out, HN.out]
    have i1 : (1 : Int) ≤ (n : Int) := by have := Hn1.out; omega
    have i3 : (n : Int) ≤ 3 := by omega
    have i0 : (0 : Int) ≤ (n : Int) := by omega
    go_wp2_with (first | (go_at_call 103; refine (Ho.out _).mono ?_; rintro e w1 ⟨rfl, hw1⟩; obtain rfl := hw1.symm) | (go_at_call 104; refine (qclone_any _ _ _ R _ _ HS.out (Nat.le_refl _) HRl3.out).mono ?_; rintro e w2 ⟨v', rfl, hO, hg2⟩) | fail)
    go_ret
    exact ⟨v', rfl, hO.sl, grown_up hga hg2⟩
  | false =>
    have HR2 : Hid (R = ([x.a, x.b, x.c].drop 0).take n) := by show _ = _; rw [← HR.out]; exact regs_all x n hs HN.out
    have HRl : Hid (R.length = n) := by show _ = _; rw [HR2.out]; simp; omega
    have Ho : Hid (∀ W, Calls Tryz.prog 103 #[.int .i64 x.op] W fun e w' => e = .returned (.bool false) ∧ w' = W) := fun W => by rw [← hs]; exact qother_any x W
    clear hs
    have HS := hide (HA.out.sl 0 n 3 R HR2.out HRl.out (by omega) (by omega))
    have HRl3 : Hid (R.length ≤ 3) := by show _ ≤ _; rw [HRl.out]; omega
    go_enter Tryz.func88, Tryz.ntmps88
    go_wp2_with fail
    refine (operands_any x.op _ hG0).mono ?_
    rintro e w1 ⟨rfl, hw1⟩
    obtain rfl := hw1.symm
    rw [Hop.out, HN.out]
    have i3 : (n : Int) ≤ 3 := by omega
    have i0 : (0 : Int) ≤ (n : Int) := by omega
    go_wp2_with (first | (go_at_call 103; refine (Ho.out _).mono ?_; rintro e w1 ⟨rfl, hw1⟩; obtain rfl := hw1.symm) | (go_at_call 104; refine (qclone_any _ _ _ R _ _ HS.out (Nat.le_refl _) HRl3.out).mono ?_; rintro e w2 ⟨v', rfl, hO, hg2⟩) | fail)
    go_ret
    exact ⟨v', rfl, hO.sl, grown_up hga hg2⟩

end Go.Proofs.YtpoahegccjgnjaaGreatDoor

namespace Go.Proofs.YtpoahegccjgnjaaGreatDoor
open Go.RowKit
set_option linter.unusedVariables false

/-- Where the k-th instruction goes on, as the program lists it. -/
def ldI (x : In) (k : Nat) : List Int := (if endsI x then [] else [(k : Int) + 1]) ++ (if hasT x then [x.a] else [])
/-- One number is appended. -/
theorem app_one (w : World) (base : Nat) (v : Value) (l : List Int) (z : Int) (g : Nat) (hg : w.heap.size = g) (hO : Ow (Value.int .i64) 3 w base v l) (hb : base ≤ w.heap.size) (hl : l.length ≤ 1000) :
    ∃ v' w', (Builtin.append_ #[82, 82] 82 #[v, .slice (some ⟨g, 0, none⟩) 1 1]).run Tryz.prog (w.alloc (.cells #[.int .i64 z] 3)) = .ok v' w' ∧ Ow (Value.int .i64) 3 w' base v' (l ++ [z]) ∧
      (w.alloc (.cells #[.int .i64 z] 3)).grownBy w' v.ownBlock ∧ (v'.ownBlock = v.ownBlock ∨ v'.ownBlock = some (w.heap.size + 1)) := by
  have hs := src_cell (P := Tryz.prog) w 82 3 Tryz.underlying82 (.int .i64 z) rfl g hg
  have hO1 : Ow (Value.int .i64) 3 (w.alloc (.cells #[.int .i64 z] 3)) base v l := hO.keptN (Kp.alloc _ _ _)
  obtain ⟨v', w', h1, h2, h3, h4⟩ := iapp_row 82 3 82 _ 1 8 Tryz.underlying82 infoI rfl (by omega) _ base v _ _ _ _ _ hO1 hs (by simp; omega) (by omega)
  refine ⟨v', w', h1, ?_, h3, by simpa using h4⟩
  unfold Ow
  simpa using h2

end Go.Proofs.YtpoahegccjgnjaaGreatDoor

namespace Go.Proofs.YtpoahegccjgnjaaGreatDoor
open Go.RowKit
set_option linter.unusedVariables false

/-- What the first k operands come to. -/
def rgK (x : In) (k : Nat) : List Int := if skipA x.op then ([x.a, x.b, x.c].take k).drop 1 else [x.a, x.b, x.c].take k
theorem rgK_all (x : In) (n : Nat) (hn : nOps x.op = n) : rgK x n = regsI x := by unfold rgK regsI opL; rw [hn]
theorem rgK_step (x : In) (k : Nat) (hk : k < 3) (h : 0 < k ∨ skipA x.op = false) : rgK x (k + 1) = rgK x k ++ [x.fl k] := by
  unfold rgK
  rcases (by omega : k = 0 ∨ k = 1 ∨ k = 2) with rfl | rfl | rfl
  · have h' : skipA x.op = false := by rcases h with h | h; exact absurd h (by omega); exact h
    rw [h']
    rfl
  · cases skipA x.op <;> rfl
  · cases skipA x.op <;> rfl
theorem rgK_stay (x : In) (h : skipA x.op = true) : rgK x 1 = rgK x 0 := by unfold rgK; rw [h]; rfl
theorem rgK_zero (x : In) : rgK x 0 = [] := by unfold rgK; split <;> rfl
theorem rgK_len (x : In) (k : Nat) : (rgK x k).length ≤ 3 := by
  unfold rgK
  split
  · simp; omega
  · simp; omega
theorem fl_new (w : World) (x : In) (k : Nat) (hk : k < 3) (g : Nat) (hg : w.heap.size = g) : (w.alloc (.cells #[.int .i64 x.a, .int .i64 x.b, .int .i64 x.c] 3)).cell? ⟨g, k, none⟩ = some (.int .i64 (x.fl k)) := by
  subst hg
  rcases (by omega : k = 0 ∨ k = 1 ∨ k = 2) with rfl | rfl | rfl <;> (simp; rfl)

set_option maxRecDepth 100000 in
set_option maxHeartbeats 1000000 in
theorem qrregs_any (x : In) (w : World) :
    Calls Tryz.prog 52 #[x.val] w fun e w' => ∃ v', e = .returned v' ∧ Sl (Value.int .i64) w'.heap.size w' v' (regsI x) ∧ w.grownBy w' none := by
  have hb := Ib.new w x
  have hg0 := World.grownBy_alloc w (.cells #[.int .i64 x.op, .int .i64 x.a, .int .i64 x.b, .int .i64 x.c, .int .i64 x.v.k, .int .i64 x.v.n, .string x.v.s] 44) none
  have Hop := hide (nOpI_eq x.op)
  obtain ⟨n, HN⟩ : ∃ n, Hid (nOps x.op = n) := ⟨_, rfl⟩
  have hn3 : n ≤ 3 := by have := HN.out; have := nOps_le x.op; omega
  have HR := hide (rgK_all x n HN.out)
  rw [← HR.out]
  obtain ⟨c0, c1, c2, c3, c4, c5, c6⟩ := hb.cs
  have HF : Hid (∀ k, k < 3 → ((w.alloc (.cells #[.int .i64 x.op, .int .i64 x.a, .int .i64 x.b, .int .i64 x.c, .int .i64 x.v.k, .int .i64 x.v.n, .string x.v.s] 44)).alloc (.cells #[.int .i64 x.a, .int .i64 x.b, .int .i64 x.c] 3)).cell? ⟨w.heap.size + 1, k, none⟩ = some (.int .i64 (x.fl k))) := fun k hk => fl_new _ x k hk _ (by simp)
  have hga := World.grownBy_alloc (w.alloc (.cells #[.int .i64 x.op, .int .i64 x.a, .int .i64 x.b, .int .i64 x.c, .int .i64 x.v.k, .int .i64 x.v.n, .string x.v.s] 44)) (.cells #[.int .i64 x.a, .int .i64 x.b, .int .i64 x.c] 3) none
  have hb1 := hb.kept hga (by simp)
  have hgx := grown_up hg0 hga
  have Hs0 : Hid (((w.alloc (.cells #[.int .i64 x.op, .int .i64 x.a, .int .i64 x.b, .int .i64 x.c, .int .i64 x.v.k, .int .i64 x.v.n, .string x.v.s] 44)).alloc (.cells #[.int .i64 x.a, .int .i64 x.b, .int .i64 x.c] 3)).heap.size = w.heap.size + 1 + 1) := by show _ = _; simp
  have HSK := hide (skip_cases x.op)
  unfold In.val
  go_enter Tryz.func52, Tryz.ntmps52
  go_wp2_with (go_at_call 77; refine (roperands_any x.op _).mono ?_; rintro e w1 ⟨rfl, hw1⟩; obtain rfl := hw1.symm; rw [Hop.out, HN.out])
  clear c0 c1 c2 c3 c4 c5 c6 hb hg0 hga
  generalize ((w.alloc (.cells #[.int .i64 x.op, .int .i64 x.a, .int .i64 x.b, .int .i64 x.c, .int .i64 x.v.k, .int .i64 x.v.n, .string x.v.s] 44)).alloc (.cells #[.int .i64 x.a, .int .i64 x.b, .int .i64 x.c] 3)) = W0 at *
  go_loopw [6, 7] (fun v t wr => ∃ (k : Nat) (u : Value), k ≤ n ∧ t = .int .i64 k ∧ u = v ∧ Ow (Value.int .i64) 3 wr W0.heap.size u (rgK x k) ∧ W0.grownBy wr none) (fun _ t _ => n - (intOf t).toNat)
  case atStart => exact ⟨0, _, Nat.zero_le _, rfl, rfl, by rw [rgK_zero]; exact Ow.nil _ _ _ _, ⟨rfl, rfl, rfl, Nat.le_refl _, fun _ _ _ => rfl⟩⟩
  case round =>
    obtain ⟨k, v6, hkn, rfl, rfl, hO, hK⟩ := hrel
    have hbr := hb1.kept hK (by simp)
    obtain ⟨c0, c1, c2, c3, c4, c5, c6⟩ := hbr.cs
    by_cases hlt : k < n
    · have hki : (k : Int) < (n : Int) := by omega
      have hcf := HF.out k (by omega)
      have hcl := lt_of_cell hcf
      have hck : wr.cell? ⟨w.heap.size + 1, k, none⟩ = some (.int .i64 (x.fl k)) := (cell_same (hK.block _ hcl (by simp)) k).trans hcf
      have Hlt := hide (fun j h => hO.lt j h)
      have hsz := hK.size
      obtain ⟨v8, w8, hr8, hO8, hg8, _⟩ := app_one wr W0.heap.size v6 _ (x.fl k) wr.heap.size rfl hO hsz (Nat.le_trans (rgK_len x k) (by omega))
      have hK8 : W0.grownBy w8 none := grown_new (grown_up hK (World.grownBy_alloc _ _ _)) hg8 (fun j hj => (Hlt.out j hj).1)
      clear hcf hcl hg8
      by_cases h0 : k = 0
      · subst h0
        rcases HSK.out with h | ⟨h, h'⟩ | ⟨h, h', h''⟩ | ⟨h, h', h''⟩
        · have HS8 : Hid (rgK x 1 = rgK x 0) := rgK_stay x (by unfold skipA; rw [beq_yes h]; rfl)
          have t1 : (x.op != 9) = false := by simp [h]
          clear hO8 hK8 hr8 h
          go_wp2
          go_roundw
          case rel => exact ⟨1, _, by omega, by go_num, rfl, by rw [HS8.out]; exact hO, hK⟩
          case measure => simp [intOf]; omega
        · have HS8 : Hid (rgK x 1 = rgK x 0) := rgK_stay x (by unfold skipA; rw [beq_yes h', Bool.or_true]; rfl)
          have t1 : (x.op != 9) = true := by simp [h]
          have t2 : (x.op != 10) = false := by simp [h']
          clear hO8 hK8 hr8 h h'
          go_wp2
          go_roundw
          case rel => exact ⟨1, _, by omega, by go_num, rfl, by rw [HS8.out]; exact hO, hK⟩
          case measure => simp [intOf]; omega
        · have HS8 : Hid (rgK x 1 = rgK x 0) := rgK_stay x (by unfold skipA; rw [beq_yes h'', Bool.or_true])
          have t1 : (x.op != 9) = true := by simp [h]
          have t2 : (x.op != 10) = true := by simp [h']
          have t3 : (x.op != 16) = false := by simp [h'']
          clear hO8 hK8 hr8 h h' h''
          go_wp2
          go_roundw
          case rel => exact ⟨1, _, by omega, by go_num, rfl, by rw [HS8.out]; exact hO, hK⟩
          case measure => simp [intOf]; omega
        · have HS8 : Hid (rgK x (0 + 1) = rgK x 0 ++ [x.fl 0]) := rgK_step x 0 (by omega) (.inr (by unfold skipA; rw [beq_no h, beq_no h', beq_no h'']; rfl))
          have t1 : (x.op != 9) = true := by simp [h]
          have t2 : (x.op != 10) = true := by simp [h']
          have t3 : (x.op != 16) = true := by simp [h'']
          clear h h' h''
          go_wp2_with (at_builtin; refine iwpList_app_at rfl (.tmp 43) (.tmp 48) 82 82 rfl _ _ rfl rfl hr8 ?_)
          go_roundw
          case rel => exact ⟨1, _, by omega, by go_num, rfl, by rw [HS8.out]; exact hO8, hK8⟩
          case measure => simp [intOf]; omega
      · have HS8 : Hid (rgK x (k + 1) = rgK x k ++ [x.fl k]) := rgK_step x k (by omega) (.inl (by omega))
        have hk0 : (0 : Int) < (k : Int) := by omega
        go_wp2_with (at_builtin; refine iwpList_app_at rfl (.tmp 43) (.tmp 48) 82 82 rfl _ _ rfl rfl hr8 ?_)
        go_roundw
        case rel => exact ⟨k + 1, _, by omega, by go_num, rfl, by rw [HS8.out]; exact hO8, hK8⟩
        case measure => simp [intOf]; omega
    · obtain rfl : k = n := by omega
      go_wp2
      go_ret
      exact ⟨_, rfl, hO.sl, grown_up hgx hK⟩

end Go.Proofs.YtpoahegccjgnjaaGreatDoor
