/- Who waits, put behind the last one, and taken from there: container/heap's Push. Conditions: those that each theorem states. -/
import Derived.Test.YtpoahegccjgnjaaYCall
import Derived.Test.YtpoahegccjgnjaaYApp
namespace Go.Proofs.Ytpoahegccjgnjaa
open Go Go.RowKit
set_option linter.unusedVariables false
theorem assert_tm (x : Value) (W : World) : (Instr.typeAssert (.iface 56 x) 20 56 false).run Try.prog W = .ok x W := by kernel_rfl
set_option maxRecDepth 100000 in
set_option maxHeartbeats 400000 in
theorem wpush_any (p : Nat) (v : Value) (H : List Tm) (y : Tm) (k : Nat) (w : World) (h : Wq w p v H) (hy : w.heap[y.b]? = some (tmC y k)) (hn : ¬ Ft v H y.b) (hp : y.b ≠ p) (hl : H.length + 1 ≤ 1000000) :
    Calls Try.prog 50 #[.pointer (some ⟨p, 0, none⟩), .iface 56 (.pointer (some ⟨y.b, 0, none⟩))] w fun e w' => e = .returned (.tuple #[]) ∧ ∃ v', Wq w' p v' (H ++ [y]) ∧ Kp (fun k => k = p ∨ k = y.b ∨ Ft v H k) w w' ∧ (v'.ownBlock = v.ownBlock ∨ ∃ g, v'.ownBlock = some g ∧ w.heap.size ≤ g ∧ g < w'.heap.size) ∧ Kc p w w' := by
  have hc := h.c
  obtain ⟨a, c, e0, -⟩ := h.ws.ow.open
  obtain ⟨_, _, y2, yf⟩ := tm_cells hy
  have yf2 := yf 2
  have k1 : Kp (only y.b) w (w.setCell ⟨y.b, 2, none⟩ (.int .i64 (H.length : Int))) := Kp.setCell _ _ _ _ rfl
  have q1 := h.kept k1 (fun k hk e => by
    rcases hk with rfl | hk
    · exact hp e.symm
    · cases e; exact hn hk)
  have ty := tb_put hy H.length
  have c1 := q1.c
  obtain ⟨v', w2, hr, hO, hg, hb⟩ := app_tm _ v H y q1.ws.ow (by omega)
  have hsz : (w.setCell ⟨y.b, 2, none⟩ (.int .i64 (H.length : Int))).heap.size = w.heap.size := by simp
  rw [hsz] at hr hb
  have k2 : Kp (fun k => v.ownBlock = some k) (w.setCell ⟨y.b, 2, none⟩ (.int .i64 (H.length : Int))) w2 := (Kp.alloc _ _ _).then (Kp.ofGrown hg (fun k hk _ => hk))
  have hpo : v.ownBlock ≠ some p := fun e => h.np (.inl e)
  have c2 := k2.cell c1 hpo
  have f2 : w2.frozen? ⟨p, 0, none⟩ = false := by rw [k2.frozen (lt_of_cell c1) hpo]; exact q1.f
  obtain ⟨a', c', e', -⟩ := hO.open
  have hsize : w2.heap.size ≥ w.heap.size + 1 := by
    have := hg.size
    rw [World.size_alloc, hsz] at this
    omega
  have hpl : p < w.heap.size := lt_of_cell hc
  have hyl : y.b < w.heap.size := (Array.getElem?_eq_some_iff.1 hy).1
  have kc2 : Kc p w w2 := (Kc.ofKp k1 (fun e => hp (e : p = y.b).symm) hpl).trans (Kc.ofKp k2 hpo (by rw [hsz]; exact hpl))
  have KC := hide kc2
  clear kc2
  have HO := hide hO
  have HB := hide hb
  have K2 := hide k2
  have HV := hide e0
  have Q1 := hide q1
  clear hO hb k2 q1
  subst e0
  have Hh := hide h
  clear h
  subst e'
  have ha := assert_tm (.pointer (some ⟨y.b, 0, none⟩)) w
  go_enter Try.func50, Try.ntmps50
  go_upto_region 2 with fail
  go_wp2_with (at_builtin; refine wpList_app_at rfl (.tmp 17) (.tmp 19) 52 52 rfl _ _ rfl rfl hr ?_)
  go_end0
  have k3 : Kp (only p) w2 (w2.setCell ⟨p, 0, none⟩ (.slice a' (H ++ [y]).length c')) := Kp.setCell _ _ _ _ rfl
  have hlen : (H ++ [y]).length = H.length + 1 := by simp
  have hOl : ∀ g, (Value.slice a' (H ++ [y]).length c').ownBlock = some g → g < w2.heap.size := fun g hg => (HO.out.lt g hg).2
  have hft : ∀ g, (Value.slice a' (H ++ [y]).length c').ownBlock = some g → (Value.slice a H.length c).ownBlock = some g ∨ g = w.heap.size + 1 := fun g hg => by
    rcases HB.out with e | e
    · exact .inl (e ▸ hg)
    · right; rw [e] at hg; cases hg; rfl
  have hgp : ∀ g, (Value.slice a' (H ++ [y]).length c').ownBlock = some g → g ≠ p := fun g hg e => by
    rcases hft g hg with h1 | h1
    · subst e; exact hpo h1
    · omega
  have hev1 : ∀ i, i < H.length → ev (H ++ [y]) i = ev H i := fun i hi => by simp [ev, hi, List.getElem?_append_left]
  have hev2 : ev (H ++ [y]) H.length = y := by simp [ev]
  have hbl : ∀ i, i < H.length → (ev H i).b < w.heap.size := fun i hi => (Array.getElem?_eq_some_iff.1 (Hh.out.ws.tb i hi)).1
  have hnp : ∀ i, i < H.length → (ev H i).b ≠ p := fun i hi e => Hh.out.np (.inr ⟨i, hi, e⟩)
  have hny : ∀ i, i < H.length → (ev H i).b ≠ y.b := fun i hi e => hn (.inr ⟨i, hi, e⟩)
  have hno : ∀ i, i < H.length → ∀ g, (Value.slice a H.length c).ownBlock = some g → (ev H i).b ≠ g := fun i hi g hg => Hh.out.ws.sep g hg i hi
  rw [← hlen]
  refine ⟨rfl, _, ⟨World.cell?_setCell_same _ _ _ c2, by rw [World.frozen?_setCell]; exact f2, ⟨HO.out.kept k3 (fun g hg e => hgp g hg e), fun i hi => ?_, ?_, fun g hg i hi e => ?_, by rw [hlen]; omega⟩, fun hh => ?_⟩, ?_, ?_⟩
  · rw [hlen] at hi
    by_cases hi' : i < H.length
    · rw [hev1 i hi']
      have t1 := Q1.out.ws.tb i hi'
      rw [← K2.out.block _ (Array.getElem?_eq_some_iff.1 t1).1 (fun e => hno i hi' _ e rfl)] at t1
      exact tb_other t1 (hnp i hi')
    · obtain rfl : i = H.length := by omega
      rw [hev2]
      have t1 := ty
      rw [← K2.out.block _ (Array.getElem?_eq_some_iff.1 t1).1 (fun e => hn (.inl e))] at t1
      exact tb_other t1 hp
  · rw [List.map_append, List.nodup_append]
    refine ⟨Hh.out.ws.nd, by simp, fun b1 h1 b2 h2 e => ?_⟩
    have : b2 = y.b := by simpa using h2
    subst this
    subst e
    exact hn (Ft.iff.2 (.inr h1))
  · rw [hlen] at hi
    by_cases hi' : i < H.length
    · rw [hev1 i hi'] at e
      rcases hft g hg with h1 | h1
      · exact hno i hi' g h1 e
      · have := hbl i hi'; omega
    · obtain rfl : i = H.length := by omega
      rw [hev2] at e
      rcases hft g hg with h1 | h1
      · subst e; exact hn (.inl h1)
      · omega
  · rcases hh with hh | ⟨i, hi, e⟩
    · exact hgp p hh rfl
    · rw [hlen] at hi
      by_cases hi' : i < H.length
      · rw [hev1 i hi'] at e
        exact hnp i hi' e
      · obtain rfl : i = H.length := by omega
        rw [hev2] at e
        exact hp e
  · exact ((k1.mono (fun k _ hk => .inr (.inl hk))).then (K2.out.mono (fun k _ hk => .inr (.inr (.inl hk))))).then (k3.mono (fun k _ hk => .inl hk))
  · refine ⟨?_, KC.out.trans (Kc.set _ _ _)⟩
    cases hgo : (Value.slice a' (H ++ [y]).length c').ownBlock with
    | none =>
        rcases HB.out with e | e
        · left; rw [← e, hgo]
        · rw [hgo] at e; cases e
      | some g =>
        have h2 := hOl g hgo
        rcases HB.out with e | e
        · left; rw [← e, hgo]
        · right
          rw [hgo] at e
          cases e
          exact ⟨_, rfl, by omega, by simpa using h2⟩

end Go.Proofs.Ytpoahegccjgnjaa
