/- Timers that are dropped, that are due; what they tell. Conditions: those that each theorem states. -/
import Derived.Test.YtpoahegccjgnjaaYSet
namespace Go.Proofs.Ytpoahegccjgnjaa
open Go Go.RowKit
open Go.ChangeMaps (setBlock)
set_option linter.unusedVariables false
theorem Rep.ofId {H : List Tm} {L : List (Int × Int)} (h : Rep H L) (i : Nat) (hi : i < H.length) : tillL (ev H i).id L = some (ev H i).till :=
  tillL_some h.lids (h.perm.mem_iff.1 (List.mem_map.2 ⟨_, ev_mem hi, rfl⟩))
theorem Rep.noTill {H : List Tm} {L : List (Int × Int)} (h : Rep H L) {id : Int} (hx : id ∉ H.map Tm.id) : tillL id L = none := tillL_none (h.noId hx)
theorem tset_any (p : Nat) (F : Nat → Prop) (L : List (Int × Int)) (id till : Int) (w : World) (h : Tim w p F L) (hl : L.length + 1 ≤ 1000000) :
    Calls Try.prog 11 #[.pointer (some ⟨p, 0, none⟩), .int .i64 id, .int .i64 till] w fun e w' => e = .returned (.tuple #[]) ∧ SetS p F (setL id till L) w w' := by
  obtain ⟨m, v, H, c, es, cl, h⟩ := h
  rcases h.set id with ⟨hc, hn⟩ | ⟨i, hi, rfl, hc⟩
  · exact tset_new p m F v H c es cl L id till w h hl hc hn
  · exact tset_old p m F v H c es cl L i till w h hi hc
set_option maxRecDepth 100000 in
set_option maxHeartbeats 800000 in
theorem tdrop_any (p : Nat) (F : Nat → Prop) (L : List (Int × Int)) (id : Int) (w : World) (h : Tim w p F L) :
    Calls Try.prog 13 #[.pointer (some ⟨p, 0, none⟩), .int .i64 id] w fun e w' => e = .returned (.bool (tillL id L).isSome) ∧ Tim w' p F (dropL id L) ∧ Kp F w w' := by
  obtain ⟨m, v, H, c, es, cl, h⟩ := h
  have cm := h.cm
  have hlk := tlook h id
  rcases h.set id with ⟨hc, hn⟩ | ⟨i, hi, rfl, hc⟩
  · rw [hc] at hlk
    simp only [Option.getD_none, Option.isSome_none] at hlk
    rw [h.rep.noTill hn, dropL_none (h.rep.noId hn)]
    have Hh := hide h
    clear h
    go_enter Try.func13, Try.ntmps13
    go_wp2
    go_ret
    exact ⟨rfl, ⟨m, v, H, c, es, cl, Hh.out⟩, Kp.refl _ _⟩
  · rw [hc] at hlk
    simp only [Option.getD_some, Option.isSome_some] at hlk
    rw [h.rep.ofId i hi]
    obtain ⟨n, hn⟩ : ∃ n, n + 1 = H.length := ⟨H.length - 1, by omega⟩
    have hqd : Wq w.drew p v H := h.wq.kept (Kp.drew none' _) (fun _ _ h => h)
    have tx := h.wq.ws.tb i hi
    have hxf : Ft v H (ev H i).b := .inr ⟨i, hi, rfl⟩
    obtain ⟨_, _, x2, _⟩ := tm_cells tx
    have HG := hide (hrem_any p v H n i w.drew hqd h.hp hn hi)
    have HG0 := hide (hrem_any p v H n i w h.wq h.hp hn hi)
    have Hh := hide h
    clear h hqd
    unfold wqI at *
    obtain ⟨x, HX⟩ : ∃ x, Hid (ev H i = x) := ⟨_, rfl⟩
    rw [HX.out] at hlk x2 HG HG0 hxf tx ⊢
    go_enter Try.func13, Try.ntmps13
    go_upto_region 6 with fail
    go_region_with (first
      | (go_at_call 24; refine HG.out.mono ?_; rintro e w1 ⟨rfl, v', H', hperm, hP', hq', hk', hv', ht', hc'⟩)
      | (go_at_call 24; refine HG0.out.mono ?_; rintro e w1 ⟨rfl, v', H', hperm, hP', hq', hk', hv', ht', hc'⟩))
    have hpm : ¬ (m = p ∨ Ft v H m) := fun e => by
      rcases e with e | e
      · exact Hh.out.mp e
      · exact Hh.out.mf e
    have hK1 : Kp (fun k => k = p ∨ Ft v H k) w w1 := by first | exact (Kp.drew _ _).then hk' | exact hk'
    have hC1 : Kc p w w1 := by first | exact hc' | exact Kc.trans (w1 := w.drew) (fun _ _ => rfl) hc'
    have c1 : w1.cell? ⟨p, 1, none⟩ = some (.map (some m)) := (hC1 1 (by decide)).trans Hh.out.cm
    have mb2 : w1.heap[m]? = some (.map es cl) := by
      rw [hK1.block m (Array.getElem?_eq_some_iff.1 Hh.out.mb).1 hpm]
      exact Hh.out.mb
    obtain ⟨es', cl', hdel, hM'⟩ := run_delI (t := 50) (e := 56) (ty := 0) Try.underlying50 mb2 Hh.out.mi x.id
    have KS := Kp.setBlock (S := only m) w1 m (.map es' cl') rfl
    have hft : ∀ k, Ft v' H' k → Ft v H k := fun k hk => by
      rcases Ft.iff.1 hk with hk | hk
      · exact Ft.iff.2 (.inl (hv' ▸ hk))
      · exact Ft.iff.2 (.inr ((hperm.map _).mem_iff.2 (by simp only [List.map_cons, List.mem_cons]; exact .inr hk)))
    have hperm2 : H.Perm (x :: H') := by rw [← HX.out]; rw [HX.out]; exact hperm
    have hR := Hh.out.rep.rem hperm2
    have fin : Tim (setBlock w1 m (.map es' cl')) p F (dropL x.id L) := by
      refine ⟨m, v', H', _, es', cl', ⟨hq'.kept KS (fun k hk e => ?_), hP', hR.1, KS.cell c1 (fun e => Hh.out.mp (e : p = m).symm), (MapKept.heap_set mb2).1, hM', mo_del Hh.out.mo hperm2 hR.2, Hh.out.mp, fun hk => Hh.out.mf (hft m hk), fun k hk => ?_, fun k hk => ?_⟩⟩
      · cases e
        rcases hk with hk | hk
        · exact Hh.out.mp hk
        · exact Hh.out.mf (hft _ hk)
      · rcases hk with hk | hk | hk
        · exact Hh.out.foot k (.inl hk)
        · exact Hh.out.foot k (.inr (.inl hk))
        · exact Hh.out.foot k (.inr (.inr (hft k hk)))
      · have := Hh.out.lt k hk
        have h2 := hK1.size
        have h3 := KS.size
        omega
    have FIN := hide fin
    have HKp : Kp F w (setBlock w1 m (.map es' cl')) := (hK1.mono (fun k _ hk => by
      rcases hk with hk | hk
      · exact Hh.out.foot k (.inl hk)
      · exact Hh.out.foot k (.inr (.inr hk)))).then (KS.mono (fun k _ e => by cases e; exact Hh.out.foot _ (.inr (.inl rfl))))
    have HK := hide HKp
    clear fin HKp hR
    go_wp2
    go_ret
    exact ⟨rfl, FIN.out, HK.out⟩
set_option maxRecDepth 100000 in
set_option maxHeartbeats 800000 in
theorem tlen_any (p : Nat) (F : Nat → Prop) (L : List (Int × Int)) (w : World) (h : Tim w p F L) :
    Calls Try.prog 19 #[.pointer (some ⟨p, 0, none⟩)] w fun e w' => e = .returned (.int .i64 (L.length : Int)) ∧ w' = w := by
  obtain ⟨m, v, H, c, es, cl, h⟩ := h
  obtain ⟨a, k, e0, -⟩ := h.wq.ws.ow.open
  have hc := h.wq.c
  have hl := h.wq.ws.len
  rw [h.rep.len]
  subst e0
  clear h
  go_enter Try.func19, Try.ntmps19
  go_wp2
  go_ret
  exact ⟨rfl, rfl⟩
set_option maxRecDepth 100000 in
set_option maxHeartbeats 800000 in
theorem tnext_none (p : Nat) (F : Nat → Prop) (w : World) (h : Tim w p F []) :
    Calls Try.prog 18 #[.pointer (some ⟨p, 0, none⟩)] w fun e w' => e = .returned (.tuple #[.int .i64 0, .int .i64 0, .bool false]) ∧ w' = w := by
  obtain ⟨m, v, H, c, es, cl, h⟩ := h
  obtain ⟨a, k, e0, -⟩ := h.wq.ws.ow.open
  have hc := h.wq.c
  have hl := h.rep.len
  have hl0 : H.length = 0 := by simpa using hl.symm
  rw [hl0] at e0
  subst e0
  clear h hl
  go_enter Try.func18, Try.ntmps18
  go_wp2
  go_ret3
  exact ⟨rfl, rfl⟩
set_option maxRecDepth 100000 in
set_option maxHeartbeats 800000 in
theorem tnext_some (p : Nat) (F : Nat → Prop) (q : Int × Int) (T : List (Int × Int)) (w : World) (h : Tim w p F (q :: T)) :
    Calls Try.prog 18 #[.pointer (some ⟨p, 0, none⟩)] w fun e w' => e = .returned (.tuple #[.int .i64 q.1, .int .i64 q.2, .bool true]) ∧ ∃ d, w' = w.drewN d := by
  obtain ⟨m, v, H, c, es, cl, h⟩ := h
  obtain ⟨a, k, e0, ho⟩ := h.wq.ws.ow.open
  have hc := h.wq.c
  have hl := h.rep.len
  have hl0 : 0 < H.length := by rw [← hl]; simp
  have hlm := h.wq.ws.len
  obtain ⟨g, e1, -, -⟩ := ho 0 hl0
  subst e1
  subst e0
  obtain ⟨T', eT⟩ := h.rep.first h.hp hl0
  cases eT
  have c0 := h.wq.ws.ow.at 0 hl0
  obtain ⟨t0, t1, _, _⟩ := tm_cells (h.wq.ws.tb 0 hl0)
  have hl1 : ((H.length : Int) == 0) = false := beq_eq_false_iff_ne.2 (by omega)
  have hl2 : (0 : Int) < (H.length : Int) := by omega
  generalize ev H 0 = x at *
  clear h ho hl
  go_enter Try.func18, Try.ntmps18
  go_upto_region 4 with fail
  go_quiet (fail)
  go_wp2
  go_ret3
  exact ⟨rfl, _, rfl⟩
set_option maxRecDepth 100000 in
set_option maxHeartbeats 800000 in
theorem ttill_any (p : Nat) (F : Nat → Prop) (L : List (Int × Int)) (id : Int) (w : World) (h : Tim w p F L) :
    Calls Try.prog 20 #[.pointer (some ⟨p, 0, none⟩), .int .i64 id] w fun e w' => e = .returned (.tuple #[.int .i64 ((tillL id L).getD 0), .bool (tillL id L).isSome]) ∧ w' = w := by
  obtain ⟨m, v, H, c, es, cl, h⟩ := h
  have cm := h.cm
  have hlk := tlook h id
  rcases h.set id with ⟨hc, hn⟩ | ⟨i, hi, rfl, hc⟩
  · rw [hc] at hlk
    simp only [Option.getD_none, Option.isSome_none] at hlk
    rw [h.rep.noTill hn]
    clear h
    go_enter Try.func20, Try.ntmps20
    go_wp2
    go_ret2
    exact ⟨rfl, rfl⟩
  · rw [hc] at hlk
    simp only [Option.getD_some, Option.isSome_some] at hlk
    rw [h.rep.ofId i hi]
    obtain ⟨x0, _, _, _⟩ := tm_cells (h.wq.ws.tb i hi)
    generalize ev H i = x at *
    clear h
    go_enter Try.func20, Try.ntmps20
    go_wp2
    go_ret2
    exact ⟨rfl, rfl⟩

end Go.Proofs.Ytpoahegccjgnjaa
