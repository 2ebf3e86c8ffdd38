/- Timers: the struct, its map, those who wait; the first one taken out. Conditions: those that each theorem states. -/
import Derived.Test.YtpoahegccjgnjaaYPop
import Derived.Test.YtpoahegccjgnjaaYMap
namespace Go.Proofs.Ytpoahegccjgnjaa
open Go Go.RowKit
open Go.ChangeMaps (setBlock)
set_option linter.unusedVariables false
/-- Timers in blocks of F, with the pairs L. -/
structure Ti (w : World) (p m : Nat) (F : Nat → Prop) (v : Value) (H : List Tm) (c : Int → Option Value) (es : Array MapEntry) (cl : Nat) (L : List (Int × Int)) : Prop where
  wq : Wq w p v H
  hp : Hp H H.length
  rep : Rep H L
  cm : w.cell? ⟨p, 1, none⟩ = some (.map (some m))
  mb : w.heap[m]? = some (.map es cl)
  mi : Mi c es.toList cl
  mo : ∀ z u, c z = some u ↔ ∃ x ∈ H, x.id = z ∧ u = .pointer (some ⟨x.b, 0, none⟩)
  mp : m ≠ p
  mf : ¬ Ft v H m
  foot : ∀ k, (k = p ∨ k = m ∨ Ft v H k) → F k
  lt : ∀ k, F k → k < w.heap.size
def Tim (w : World) (p : Nat) (F : Nat → Prop) (L : List (Int × Int)) : Prop := ∃ m v H c es cl, Ti w p m F v H c es cl L
theorem Ti.kept {w w' : World} {p m : Nat} {F S : Nat → Prop} {v : Value} {H : List Tm} {c : Int → Option Value} {es : Array MapEntry} {cl : Nat} {L : List (Int × Int)} (h : Ti w p m F v H c es cl L) (hk : Kp S w w') (hS : ∀ k, F k → ¬ S k) : Ti w' p m F v H c es cl L := by
  have fp := hS p (h.foot p (.inl rfl))
  have fm := hS m (h.foot m (.inr (.inl rfl)))
  exact ⟨h.wq.kept hk (fun k hh => hS k (h.foot k (by rcases hh with hh | hh; exact .inl hh; exact .inr (.inr hh)))), h.hp, h.rep, hk.cell h.cm fp, by
    rw [hk.block m (Array.getElem?_eq_some_iff.1 h.mb).1 fm]; exact h.mb, h.mi, h.mo, h.mp, h.mf, h.foot, fun k hk' => Nat.lt_of_lt_of_le (h.lt k hk') hk.size⟩
theorem Tim.kept {w w' : World} {p : Nat} {F S : Nat → Prop} {L : List (Int × Int)} (h : Tim w p F L) (hk : Kp S w w') (hS : ∀ k, F k → ¬ S k) : Tim w' p F L := by
  obtain ⟨m, v, H, c, es, cl, h⟩ := h
  exact ⟨m, v, H, c, es, cl, h.kept hk hS⟩
theorem Tim.lt {w : World} {p : Nat} {F : Nat → Prop} {L : List (Int × Int)} (h : Tim w p F L) : ∀ k, F k → k < w.heap.size := by
  obtain ⟨m, v, H, c, es, cl, h⟩ := h
  exact h.lt
theorem Tim.len {w : World} {p : Nat} {F : Nat → Prop} {L : List (Int × Int)} (h : Tim w p F L) : L.length ≤ 1000000 := by
  obtain ⟨m, v, H, c, es, cl, h⟩ := h
  rw [h.rep.len]
  exact h.wq.ws.len
theorem mo_del {H H' : List Tm} {x : Tm} {c : Int → Option Value} (hm : ∀ z u, c z = some u ↔ ∃ x ∈ H, x.id = z ∧ u = .pointer (some ⟨x.b, 0, none⟩)) (hp : H.Perm (x :: H')) (hx : x.id ∉ H'.map Tm.id) : ∀ z u, delI c x.id z = some u ↔ ∃ x ∈ H', x.id = z ∧ u = .pointer (some ⟨x.b, 0, none⟩) := fun z u => by
  unfold delI
  split
  · rename_i e
    subst e
    constructor
    · intro h; cases h
    · rintro ⟨y, hy, e, _⟩
      exact absurd (List.mem_map.2 ⟨y, hy, e⟩) hx
  · rename_i e
    rw [hm z u]
    constructor
    · rintro ⟨y, hy, e1, e2⟩
      rcases List.mem_cons.1 (hp.mem_iff.1 hy) with rfl | hy
      · exact absurd e1.symm e
      · exact ⟨y, hy, e1, e2⟩
    · rintro ⟨y, hy, e1, e2⟩
      exact ⟨y, hp.mem_iff.2 (List.mem_cons_of_mem _ hy), e1, e2⟩
set_option maxRecDepth 100000 in
set_option maxHeartbeats 800000 in
theorem tpop_any (p : Nat) (F : Nat → Prop) (q : Int × Int) (T : List (Int × Int)) (w : World) (h : Tim w p F (q :: T)) :
    Calls Try.prog 25 #[.pointer (some ⟨p, 0, none⟩)] w fun e w' => e = .returned (.int .i64 q.2) ∧ Tim w' p F T ∧ Kp F w w' := by
  obtain ⟨m, v, H, c, es, cl, h⟩ := h
  have hpos : 0 < H.length := by have := h.rep.len; simp at this; omega
  obtain ⟨n, hn⟩ : ∃ n, n + 1 = H.length := ⟨H.length - 1, by omega⟩
  obtain ⟨T', eT⟩ := h.rep.first h.hp hpos
  cases eT
  have HP := hide (hpop_any p v H n w h.wq h.hp hn)
  obtain ⟨x, HX⟩ : ∃ x, Hid (ev H 0 = x) := ⟨_, rfl⟩
  rw [HX.out] at HP ⊢
  have hxf : Ft v H x.b := .inr ⟨0, hpos, by rw [HX.out]⟩
  have tx := h.wq.ws.tb 0 hpos
  rw [HX.out] at tx
  have Hh := hide h
  clear h
  have ha := fun W => assert_tm (.pointer (some ⟨x.b, 0, none⟩)) W
  unfold wqI at *
  go_enter Try.func25, Try.ntmps25
  go_upto_region 2 with (go_at_call 28; refine HP.out.mono ?_; clear HP; rintro e w1 ⟨rfl, v', H', hperm, hP', hq', hk', hv', ht', hc'⟩)
  have hpm : ¬ (m = p ∨ Ft v H m) := fun e => by
    rcases e with e | e
    · exact Hh.out.mp e
    · exact Hh.out.mf e
  obtain ⟨_, x1, _, _⟩ := tm_cells ht'
  have c1 : w1.cell? ⟨p, 1, none⟩ = some (.map (some m)) := (hc' 1 (by decide)).trans Hh.out.cm
  have mb1 : w1.heap[m]? = some (.map es cl) := by
    rw [hk'.block m (Array.getElem?_eq_some_iff.1 Hh.out.mb).1 hpm]
    exact Hh.out.mb
  have mb2 : w1.drew.heap[m]? = some (.map es cl) := mb1
  obtain ⟨es', cl', hdel, hM'⟩ := run_delI (t := 50) (e := 56) (ty := 0) Try.underlying50 mb2 Hh.out.mi x.id
  have KS := Kp.setBlock (S := only m) w1.drew m (.map es' cl') rfl
  have xm : ¬ only m x.b := fun e => Hh.out.mf ((e : x.b = m) ▸ hxf)
  have x2 : (setBlock w1.drew m (.map es' cl')).cell? ⟨x.b, 1, none⟩ = some (.int .i64 x.id) := KS.cell x1 xm
  have hft : ∀ k, Ft v' H' k → Ft v H k := fun k hk => by
    rcases Ft.iff.1 hk with hk | hk
    · exact Ft.iff.2 (.inl (hv' ▸ hk))
    · exact Ft.iff.2 (.inr ((hperm.map _).mem_iff.2 (by simp only [List.map_cons, List.mem_cons]; exact .inr hk)))
  have hR := Hh.out.rep.rem (show H.Perm (x :: H') by rw [← HX.out]; rw [HX.out]; exact hperm)
  have hT : dropL x.id ((ev H 0).pr :: T) = T := by
    rw [HX.out]
    exact dropL_head (q := x.pr) (by have := Hh.out.rep.lids; rw [HX.out] at this; exact this)
  have fin : Tim (setBlock w1.drew m (.map es' cl')) p F T := by
    refine ⟨m, v', H', _, es', cl', ⟨(hq'.kept (Kp.drew none' _) (fun _ _ h => h)).kept KS (fun k hk e => ?_), hP', by have := hR.1; rw [hT] at this; exact this, KS.cell c1 (fun e => Hh.out.mp (e : p = m).symm), (MapKept.heap_set mb2).1, hM', mo_del Hh.out.mo hperm hR.2, Hh.out.mp, fun hk => Hh.out.mf (hft m hk), fun k hk => ?_, fun k hk => ?_⟩⟩
    · cases e
      rcases hk with hk | hk
      · exact Hh.out.mp hk
      · exact Hh.out.mf (hft _ hk)
    · rcases hk with hk | hk | hk
      · exact Hh.out.foot k (.inl hk)
      · exact Hh.out.foot k (.inr (.inl hk))
      · exact Hh.out.foot k (.inr (.inr (hft k hk)))
    · have := Hh.out.lt k hk
      have h2 := hk'.size
      have h3 := KS.size
      simp at h3
      omega
  have FIN := hide fin
  have HKp : Kp F w (setBlock w1.drew m (.map es' cl')) := ((hk'.mono (fun k _ hk => by
    rcases hk with hk | hk
    · exact Hh.out.foot k (.inl hk)
    · exact Hh.out.foot k (.inr (.inr hk)))).then (Kp.drew _ _)).then (KS.mono (fun k _ e => by cases e; exact Hh.out.foot _ (.inr (.inl rfl))))
  have HK := hide HKp
  clear fin HKp hR hT
  go_region
  go_wp2
  go_ret
  exact ⟨rfl, FIN.out, HK.out⟩

end Go.Proofs.Ytpoahegccjgnjaa
