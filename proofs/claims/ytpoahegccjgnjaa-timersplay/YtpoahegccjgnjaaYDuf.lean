/- Timers that are due. Conditions: those that each theorem states. -/
import Derived.Test.YtpoahegccjgnjaaYDue
namespace Go.Proofs.Ytpoahegccjgnjaa
open Go Go.RowKit
open Go.ChangeMaps (setBlock)
set_option linter.unusedVariables false
def dueL (now : Int) (L : List (Int × Int)) : List Int := (L.takeWhile (fun q => decide (q.1 ≤ now))).map (·.2)
def restL (now : Int) (L : List (Int × Int)) : List (Int × Int) := L.dropWhile (fun q => decide (q.1 ≤ now))
theorem app_i (w : World) (base : Nat) (v : Value) (l : List Int) (x : Int) (hO : Ow (Value.int .i64) 3 w base v l) (hb : base ≤ w.heap.size) (hl : l.length ≤ 1000000) :
    ∃ v' w', (Builtin.append_ #[37, 37] 37 #[v, .slice (some ⟨w.heap.size, 0, none⟩) 1 1]).run Try.prog (w.alloc (.cells #[.int .i64 x] 3)) = .ok v' w' ∧ Ow (Value.int .i64) 3 w' base v' (l ++ [x]) ∧ (w.alloc (.cells #[.int .i64 x] 3)).grownBy w' v.ownBlock := by
  obtain ⟨i0, hi, hz0, hz1, hz2⟩ := info_parts infoI
  have hO' : Ow (Value.int .i64) 3 (w.alloc (.cells #[.int .i64 x] 3)) base v l := hO.keptN (Kp.alloc none' _ _)
  obtain ⟨v', w', h1, h2, h3, h4⟩ := run_append_own_row (P := Try.prog) _ base 37 37 37 3 i0 _ 1 8 Try.underlying37 hi hz0 (by rfl) hz1 hz2 v l.length (l.map (Value.int .i64)) hO' _ 1 [.int .i64 x] (src_cell w 37 3 Try.underlying37 (.int .i64 x) rfl w.heap.size rfl) (by omega) (by omega) (by unfold maxLen; omega) (by rw [World.size_alloc]; omega)
  refine ⟨v', w', h1, ?_, h3⟩
  unfold Ow
  rw [List.length_append, List.map_append]
  exact h2
set_option maxRecDepth 100000 in
set_option maxHeartbeats 800000 in
theorem tdue_any (p : Nat) (F : Nat → Prop) (L : List (Int × Int)) (now : Int) (w : World) (h : Tim w p F L) :
    Calls Try.prog 16 #[.pointer (some ⟨p, 0, none⟩), .int .i64 now] w fun e w' => ∃ u, e = .returned u ∧ Ow (Value.int .i64) 3 w' w.heap.size u (dueL now L) ∧ Tim w' p F (restL now L) ∧ Kp F w w' := by
  have hL := h.len
  have hFl := h.lt
  go_enter Try.func16, Try.ntmps16
  go_wp2
  go_loopw [5] (fun t wr => ∃ A R : List (Int × Int), L = A ++ R ∧ (∀ q ∈ A, q.1 ≤ now) ∧ Ow (Value.int .i64) 3 wr w.heap.size t (A.map (·.2)) ∧ Tim wr p F R ∧ Kp F w wr) (fun t _ => L.length - (match t with | .slice _ n _ => n | _ => 0))
  case atStart => exact ⟨[], L, rfl, by simp, Ow.nil _ _ _ _, h, Kp.refl _ _⟩
  case round =>
    obtain ⟨A, R, hLA, hA, hO, hT, hK⟩ := hrel
    obtain ⟨a1, k1, eu, -⟩ := hO.open
    rw [List.length_map] at eu
    have fin : ∀ wx, Ow (Value.int .i64) 3 wx w.heap.size (.slice a1 A.length k1) (A.map (·.2)) → Tim wx p F R → Kp F w wx → (R = [] ∨ ∃ q T, R = q :: T ∧ ¬ q.1 ≤ now) → ∃ u, Ending.returned (.slice a1 A.length k1) = .returned u ∧ Ow (Value.int .i64) 3 wx w.heap.size u (dueL now L) ∧ Tim wx p F (restL now L) ∧ Kp F w wx := fun wx h1 h2 h3 hR => by
      have e1 : dueL now L = A.map (·.2) := by
        unfold dueL
        rw [hLA, List.takeWhile_append_of_pos (fun q hq => by simpa using hA q hq)]
        rcases hR with rfl | ⟨q, T, rfl, hq⟩
        · simp
        · simp [hq]
      have e2 : restL now L = R := by
        unfold restL
        rw [hLA, List.dropWhile_append_of_pos (fun q hq => by simpa using hA q hq)]
        rcases hR with rfl | ⟨q, T, rfl, hq⟩
        · simp
        · simp [hq]
      rw [e1, e2]
      exact ⟨_, rfl, h1, h2, h3⟩
    have FIN := hide fin
    clear fin
    have HTim := hide hT
    obtain ⟨m, v, H, c, es, cl, hI⟩ := hT
    obtain ⟨a, k, e0, ho⟩ := hI.wq.ws.ow.open
    have hc := hI.wq.c
    have hlen := hI.rep.len
    have hlm := hI.wq.ws.len
    cases R with
    | nil =>
      have hl0 : H.length = 0 := by simpa using hlen.symm
      rw [hl0] at e0
      subst e0
      subst eu
      have hO' := hide hO
      clear hI ho hO hLA
      go_wp2
      go_ret
      obtain ⟨u, e, hu⟩ := FIN.out wr hO'.out HTim.out hK (by first | exact .inl rfl | simp)
      cases e
      exact ⟨_, rfl, hu⟩
    | cons q T =>
      have hl0 : 0 < H.length := by rw [← hlen]; simp
      obtain ⟨g, e1, -, -⟩ := ho 0 hl0
      subst e1
      subst e0
      obtain ⟨T', eT⟩ := hI.rep.first hI.hp hl0
      cases eT
      have c0 := hI.wq.ws.ow.at 0 hl0
      obtain ⟨t0, _, _, _⟩ := tm_cells (hI.wq.ws.tb 0 hl0)
      have hl2 : (0 : Int) < (H.length : Int) := by omega
      generalize ev H 0 = x at *
      clear hI ho hlen
      have hx : x.pr.1 = x.till := rfl
      have HO := hide hO
      clear hO
      by_cases hd : x.till ≤ now
      · have HP := hide (tpop_any p F x.pr T wr HTim.out)
        have hx2 : x.pr.2 = x.id := rfl
        rw [hx2] at HP
        subst eu
        have hAl : A.length ≤ 1000000 := by
          have := congrArg List.length hLA
          rw [List.length_append] at this
          omega
        have hsz := hK.size
        have HA : Hid (∀ w1, Kp F wr w1 → ∃ v' w2, (Builtin.append_ #[37, 37] 37 #[.slice a1 A.length k1, .slice (some ⟨w1.heap.size, 0, none⟩) 1 1]).run Try.prog (w1.alloc (.cells #[.int .i64 x.id] 3)) = .ok v' w2 ∧ Ow (Value.int .i64) 3 w2 w.heap.size v' ((A ++ [x.pr]).map (·.2)) ∧ Kp (fun k => w.heap.size ≤ k) w1 w2) := fun w1 hk1 => by
          have h1 := HO.out.kept hk1 (fun k hk hf => by have := (HO.out.lt k hk).1; have := hFl k hf; omega)
          have hs1 := hk1.size
          obtain ⟨v', w2, hr, hO2, hg2⟩ := app_i w1 w.heap.size _ _ x.id h1 (by omega) (by rw [List.length_map]; exact hAl)
          refine ⟨v', w2, hr, by rw [List.map_append]; exact hO2, (Kp.alloc _ _ _).then (Kp.ofGrown hg2 (fun k hk _ => (h1.lt k hk).1))⟩
        have hmeas : A.length < L.length := by
          rw [hLA]
          simp
        have hLA2 : L = (A ++ [x.pr]) ++ T := by rw [hLA]; simp
        have hA2 : ∀ q ∈ A ++ [x.pr], q.1 ≤ now := fun q hq => by
          rcases List.mem_append.1 hq with hq | hq
          · exact hA q hq
          · have : q = x.pr := by simpa using hq
            rw [this]
            exact hd
        go_upto_region 5 with fail
        go_wp2_with (first
          | (go_at_call 25; refine HP.out.mono ?_; rintro e w1 ⟨rfl, hT1, hk1⟩; obtain ⟨v', w2, hr, hO2, hg2⟩ := HA.out w1 hk1; clear HP)
          | (at_builtin; refine wpList_app_at rfl (.tmp 27) (.tmp 30) 37 37 rfl _ _ rfl rfl hr ?_))
        obtain ⟨a3, k3, e3, -⟩ := hO2.open
        rw [List.length_map] at e3
        go_roundw
        case rel => exact ⟨A ++ [x.pr], T, hLA2, hA2, hO2, hT1.kept hg2 (fun k hk e => by have := hFl k hk; omega), hK.trans (hk1.trans hg2 (S'' := fun k => F k ∨ w.heap.size ≤ k) (fun k _ h => .inl h) (fun k _ h => .inr h)) (fun _ _ h => h) (fun k hk h => by
          rcases h with h | h
          · exact h
          · omega)⟩
        case measure =>
          subst e3
          simp
          omega
      · subst eu
        clear hLA
        go_wp2
        go_ret
        obtain ⟨u, e, hu⟩ := FIN.out wr HO.out HTim.out hK (.inr ⟨_, _, rfl, hd⟩)
        cases e
        exact ⟨_, rfl, hu⟩

end Go.Proofs.Ytpoahegccjgnjaa
