/- Timers that are set: of a number that is set already, and of a new one. Conditions: those that each theorem states. -/
import Derived.Test.YtpoahegccjgnjaaYTim
namespace Go.Proofs.Ytpoahegccjgnjaa
open Go Go.RowKit
open Go.ChangeMaps (setBlock)
set_option linter.unusedVariables false
theorem tlook {w : World} {p m : Nat} {F : Nat → Prop} {v : Value} {H : List Tm} {c : Int → Option Value} {es : Array MapEntry} {cl : Nat} {L : List (Int × Int)} (h : Ti w p m F v H c es cl L) (z : Int) :
    (Instr.lookup 50 (.map (some m)) (.int .i64 z) true).run Try.prog w = .ok (.tuple #[(c z).getD (.pointer none), .bool (c z).isSome]) w :=
  run_lookI (ok := true) (t := 50) (e := 56) Try.underlying50 (zv := .pointer none) (fun W => by kernel_rfl) h.mb h.mi z
theorem Ti.set {w : World} {p m : Nat} {F : Nat → Prop} {v : Value} {H : List Tm} {c : Int → Option Value} {es : Array MapEntry} {cl : Nat} {L : List (Int × Int)} (h : Ti w p m F v H c es cl L) (z : Int) :
    (c z = none ∧ z ∉ H.map Tm.id) ∨ ∃ i, i < H.length ∧ (ev H i).id = z ∧ c z = some (.pointer (some ⟨(ev H i).b, 0, none⟩)) := by
  cases hc : c z with
  | none =>
    refine .inl ⟨rfl, fun hm => ?_⟩
    obtain ⟨x, hx, e⟩ := List.mem_map.1 hm
    have := (h.mo z _).2 ⟨x, hx, e, rfl⟩
    rw [hc] at this
    cases this
  | some u =>
    obtain ⟨x, hx, e1, e2⟩ := (h.mo z u).1 hc
    obtain ⟨i, hi, he⟩ := mem_ev hx
    exact .inr ⟨i, hi, by rw [he]; exact e1, by rw [he, e2]⟩
theorem erase_perm {α : Type} {l : List α} {i : Nat} (h : i < l.length) : (l[i] :: l.eraseIdx i).Perm l := by
  rw [List.eraseIdx_eq_take_drop_succ]
  have e : l = l.take i ++ l[i] :: l.drop (i + 1) := by
    rw [← List.drop_eq_getElem_cons h, List.take_append_drop]
  have := (List.perm_middle (a := l[i]) (l₁ := l.take i) (l₂ := l.drop (i + 1))).symm
  rw [← e] at this
  exact this
/-- What Set leaves. -/
def SetS (p : Nat) (F : Nat → Prop) (L' : List (Int × Int)) (w w' : World) : Prop := ∃ F' : Nat → Prop, Tim w' p F' L' ∧ (∀ k, F k → F' k) ∧ (∀ k, F' k → F k ∨ w.heap.size ≤ k) ∧ Kp F w w'
set_option maxRecDepth 100000 in
set_option maxHeartbeats 800000 in
theorem tset_old (p m : Nat) (F : Nat → Prop) (v : Value) (H : List Tm) (c : Int → Option Value) (es : Array MapEntry) (cl : Nat) (L : List (Int × Int)) (i : Nat) (till : Int) (w : World) (h : Ti w p m F v H c es cl L) (hi : i < H.length)
    (hc : c (ev H i).id = some (.pointer (some ⟨(ev H i).b, 0, none⟩))) :
    Calls Try.prog 11 #[.pointer (some ⟨p, 0, none⟩), .int .i64 (ev H i).id, .int .i64 till] w fun e w' => e = .returned (.tuple #[]) ∧ SetS p F (setL (ev H i).id till L) w w' := by
  have hlk := tlook h (ev H i).id
  rw [hc] at hlk
  simp only [Option.getD_some, Option.isSome_some] at hlk
  have cm := h.cm
  have tx := h.wq.ws.tb i hi
  have hxf : Ft v H (ev H i).b := .inr ⟨i, hi, rfl⟩
  -- behind the store
  let H1 := H.set i ⟨till, (ev H i).id, (ev H i).b⟩
  have hl1 : H1.length = H.length := by simp [H1]
  have e1 : ev H1 i = ⟨till, (ev H i).id, (ev H i).b⟩ := by simp [H1, ev, hi]
  have e2 : ∀ k, k ≠ i → ev H1 k = ev H k := fun k hk => by
    have : i ≠ k := fun e => hk e.symm
    simp [H1, ev, this]
  have hb : ∀ k, (ev H1 k).b = (ev H k).b := fun k => by
    by_cases e : k = i
    · subst e; rw [e1]
    · rw [e2 k e]
  have hmb : H1.map Tm.b = H.map Tm.b := List.ext_getElem (by simp [hl1]) (fun k h1 h2 => by
    rw [List.getElem_map, List.getElem_map]
    have h1' : k < H1.length := by simpa using h1
    have h2' : k < H.length := by simpa using h2
    have := hb k
    rw [ev_lt h1', ev_lt h2'] at this
    exact this)
  have hmp : H1.map ptV = H.map ptV := by
    have e : ∀ l : List Tm, l.map ptV = (l.map Tm.b).map (fun b => Value.pointer (some ⟨b, 0, none⟩)) := fun l => by simp [ptV]
    rw [e, e, hmb]
  have hft : ∀ k, Ft v H1 k ↔ Ft v H k := fun k => by rw [Ft.iff, Ft.iff, hmb]
  have kx : Kp (only (ev H i).b) w (w.setCell ⟨(ev H i).b, 0, none⟩ (.int .i64 till)) := Kp.setCell _ _ _ _ rfl
  have hxp : (ev H i).b ≠ p := fun e => h.wq.np (e ▸ hxf)
  have hxm : (ev H i).b ≠ m := fun e => h.mf (e ▸ hxf)
  have hO : Ow ptV 56 (w.setCell ⟨(ev H i).b, 0, none⟩ (.int .i64 till)) 0 v H1 := by
    have := h.wq.ws.ow.kept kx (fun k hk e => h.wq.ws.sep k hk i hi (e : k = (ev H i).b).symm)
    unfold Ow at this ⊢
    rw [hl1, hmp]
    exact this
  have hW : Ws (w.setCell ⟨(ev H i).b, 0, none⟩ (.int .i64 till)) v H1 := by
    refine ⟨hO, fun k hk => ?_, by rw [hmb]; exact h.wq.ws.nd, fun g hg k hk => by rw [hb]; exact h.wq.ws.sep g hg k (by rw [← hl1]; exact hk), by rw [hl1]; exact h.wq.ws.len⟩
    rw [hl1] at hk
    by_cases e : k = i
    · subst e
      rw [e1]
      exact heap_setCell_same _ _ 0 _ _ _ tx
    · rw [e2 k e]
      exact tb_other (h.wq.ws.tb k hk) (fun hh => e (b_inj h.wq.ws.nd hk hi hh))
  have hQ : Wq (w.setCell ⟨(ev H i).b, 0, none⟩ (.int .i64 till)) p v H1 := ⟨kx.cell h.wq.c (fun e => hxp (e : p = (ev H i).b).symm), by rw [World.frozen?_setCell]; exact h.wq.f, hW, fun hh => h.wq.np ((hft p).1 hh)⟩
  have hF : FixOk H1 H1.length i := by rw [hl1]; exact hp_fix h.hp e2
  have HF := hide (fun W (hq : Wq W p v H1) => fix_any p v H1 i W hq (by rw [hl1]; exact hi) hF)
  obtain ⟨x0, _, _, xf⟩ := tm_cells tx
  have xf0 := xf 0
  have t1 := hW.tb i (by rw [hl1]; exact hi)
  obtain ⟨_, _, x2, _⟩ := tm_cells t1
  rw [e1] at x2
  dsimp only at x2
  have hR : Rep H1 (setL (ev H i).id till L) := by
    have p1 : H.Perm (ev H i :: H.eraseIdx i) := by
      rw [ev_lt hi]
      exact (erase_perm hi).symm
    have p2 : H1.Perm (⟨till, (ev H i).id, (ev H i).b⟩ :: H.eraseIdx i) := by
      have h3 := (erase_perm (l := H1) (i := i) (by rw [hl1]; exact hi)).symm
      rw [← ev_lt (by rw [hl1]; exact hi), e1] at h3
      simp only [H1, List.eraseIdx_set_eq] at h3
      exact h3
    exact (h.rep.setOld p1 till).of p2
  have fin : ∀ w2 H2, H2.Perm H1 → Hp H2 H2.length → Wq w2 p v H2 → Kp (Ft v H1) (w.setCell ⟨(ev H i).b, 0, none⟩ (.int .i64 till)) w2 → SetS p F (setL (ev H i).id till L) w w2 := fun w2 H2 hp2 hP2 hq2 hk2 => by
    have K : Kp (Ft v H) w w2 := (kx.mono (fun k _ e => (e : k = (ev H i).b) ▸ hxf)).then (hk2.mono (fun k _ hk => (hft k).1 hk))
    refine ⟨F, ⟨m, v, H2, c, es, cl, ⟨hq2, hP2, hR.of hp2, K.cell h.cm h.wq.np, by rw [K.block m (Array.getElem?_eq_some_iff.1 h.mb).1 h.mf]; exact h.mb, h.mi, fun z u => ?_, h.mp, fun hh => h.mf ((hft m).1 (hh.perm hp2)), fun k hk => h.foot k ?_, fun k hk => Nat.lt_of_lt_of_le (h.lt k hk) K.size⟩⟩, fun k hk => hk, fun k hk => .inl hk, K.mono (fun k _ hk => h.foot k (.inr (.inr hk)))⟩
    · rw [h.mo z u]
      constructor
      · rintro ⟨x, hx, g1, g2⟩
        obtain ⟨j, hj, rfl⟩ := mem_ev hx
        refine ⟨ev H1 j, hp2.mem_iff.2 (ev_mem (by rw [hl1]; exact hj)), ?_, by rw [hb]; exact g2⟩
        by_cases e : j = i
        · subst e; rw [e1]; exact g1
        · rw [e2 j e]; exact g1
      · rintro ⟨x, hx, g1, g2⟩
        obtain ⟨j, hj, rfl⟩ := mem_ev (hp2.mem_iff.1 hx)
        rw [hl1] at hj
        refine ⟨ev H j, ev_mem hj, ?_, by rw [← hb]; exact g2⟩
        by_cases e : j = i
        · subst e; rw [e1] at g1; exact g1
        · rw [e2 j e] at g1; exact g1
    · rcases hk with hk | hk | hk
      · exact .inl hk
      · exact .inr (.inl hk)
      · exact .inr (.inr ((hft k).1 (hk.perm hp2)))
  have FIN := hide fin
  have HQ := hide hQ
  clear fin hQ hR hF hW hO tx t1 h
  generalize setL (ev H i).id till L = L' at *
  generalize (ev H i).b = xb at *
  generalize (ev H i).id = xi at *
  clear_value H1
  unfold wqI at *
  go_enter Try.func11, Try.ntmps11
  go_upto_region 4 with fail
  have HG := hide (HF.out _ (HQ.out.kept (Kp.drew none' _) (fun _ _ h => h)))
  have HG0 := hide (HF.out _ HQ.out)
  clear HF HQ
  go_region_with (first
    | (go_at_call 22; refine HG.out.mono ?_; rintro e w2 ⟨rfl, H2, hp2, hP2, hq2, hk2⟩)
    | (go_at_call 22; refine HG0.out.mono ?_; rintro e w2 ⟨rfl, H2, hp2, hP2, hq2, hk2⟩))
  all_goals go_wp2
  all_goals first | go_end0 | ((try simp only [Exit.inBlock, Exit.then]); refine bodyPost_ret (results_none rfl _ _ _) rfl ?_)
  all_goals first
    | exact ⟨rfl, FIN.out _ H2 hp2 hP2 hq2 ((Kp.drew _ _).then hk2)⟩
    | exact ⟨rfl, FIN.out _ H2 hp2 hP2 hq2 hk2⟩
theorem mapnil (m : Nat) (W : World) : (binOp .eql 50 (.map (some m)) (.map none)).run Try.prog W = .ok (.bool false) W := by kernel_rfl
theorem mo_put {H H' : List Tm} {y : Tm} {c : Int → Option Value} (hm : ∀ z u, c z = some u ↔ ∃ x ∈ H, x.id = z ∧ u = .pointer (some ⟨x.b, 0, none⟩)) (hp : H'.Perm (y :: H)) (hy : y.id ∉ H.map Tm.id) : ∀ z u, putI c y.id (.pointer (some ⟨y.b, 0, none⟩)) z = some u ↔ ∃ x ∈ H', x.id = z ∧ u = .pointer (some ⟨x.b, 0, none⟩) := fun z u => by
  unfold putI
  split
  · rename_i e
    subst e
    constructor
    · intro h
      cases h
      exact ⟨y, hp.mem_iff.2 (List.mem_cons_self ..), rfl, rfl⟩
    · rintro ⟨x, hx, e, g⟩
      rcases List.mem_cons.1 (hp.mem_iff.1 hx) with rfl | hx
      · rw [g]
      · exact absurd (List.mem_map.2 ⟨x, hx, e⟩) hy
  · rename_i e
    rw [hm z u]
    constructor
    · rintro ⟨x, hx, g⟩
      exact ⟨x, hp.mem_iff.2 (List.mem_cons_of_mem _ hx), g⟩
    · rintro ⟨x, hx, e1, e2⟩
      rcases List.mem_cons.1 (hp.mem_iff.1 hx) with rfl | hx
      · exact absurd e1.symm e
      · exact ⟨x, hx, e1, e2⟩
set_option maxRecDepth 100000 in
set_option maxHeartbeats 800000 in
theorem tset_new (p m : Nat) (F : Nat → Prop) (v : Value) (H : List Tm) (c : Int → Option Value) (es : Array MapEntry) (cl : Nat) (L : List (Int × Int)) (id till : Int) (w : World) (h : Ti w p m F v H c es cl L) (hl : L.length + 1 ≤ 1000000)
    (hc : c id = none) (hn : id ∉ H.map Tm.id) :
    Calls Try.prog 11 #[.pointer (some ⟨p, 0, none⟩), .int .i64 id, .int .i64 till] w fun e w' => e = .returned (.tuple #[]) ∧ SetS p F (setL id till L) w w' := by
  have hlk := tlook h id
  rw [hc] at hlk
  simp only [Option.getD_none, Option.isSome_none] at hlk
  have cm := h.cm
  have hbig : p < w.heap.size := lt_of_cell h.wq.c
  have hml : m < w.heap.size := (Array.getElem?_eq_some_iff.1 h.mb).1
  obtain ⟨y, HY⟩ : ∃ y : Tm, y = ⟨till, id, w.heap.size⟩ := ⟨_, rfl⟩
  -- the new one's block
  have ka : Kp none' w (w.alloc (.cells #[.int .i64 till, .int .i64 id, .int .i64 0] 59)) := Kp.alloc _ _ _
  have hnew := heap_alloc_new w (.cells #[.int .i64 till, .int .i64 id, .int .i64 0] 59)
  have cma := ka.cell cm (fun h => h)
  have mba : (w.alloc (.cells #[.int .i64 till, .int .i64 id, .int .i64 0] 59)).heap[m]? = some (.map es cl) := by rw [ka.block m hml (fun h => h)]; exact h.mb
  obtain ⟨es', cl', hput, hM'⟩ := run_putI (t := 50) (e := 56) Try.underlying50 mba h.mi id (.pointer (some ⟨w.heap.size, 0, none⟩))
  have KS := Kp.setBlock (S := only m) (w.alloc (.cells #[.int .i64 till, .int .i64 id, .int .i64 0] 59)) m (.map es' cl') rfl
  have mb2 : (setBlock (w.alloc (.cells #[.int .i64 till, .int .i64 id, .int .i64 0] 59)) m (.map es' cl')).heap[m]? = some (.map es' cl') := (MapKept.heap_set mba).1
  have hmn := fun W => mapnil m W
  obtain ⟨W, HW⟩ : ∃ W, Hid (setBlock (w.alloc (.cells #[.int .i64 till, .int .i64 id, .int .i64 0] 59)) m (.map es' cl') = W) := ⟨_, rfl⟩
  have KW : Kp (only m) w W := by
    rw [← HW.out]
    exact ka.nThen KS
  have hyW : W.heap[y.b]? = some (tmC y 0) := by
    rw [HY]
    dsimp only
    rw [← HW.out, KS.block w.heap.size (by rw [World.size_alloc]; omega) (fun e => by have : w.heap.size = m := e; omega), hnew]
    rfl
  have hbl : ∀ k, Ft v H k → k < w.heap.size := fun k hk => Ft.lt h.wq.ws hk
  have hqW : Wq W p v H := h.wq.kept KW (fun k hk e => by
    cases e
    rcases hk with hk | hk
    · exact h.mp hk
    · exact h.mf hk)
  have hyb : y.b = w.heap.size := by rw [HY]
  have hnf : ¬ Ft v H y.b := fun e => by have := hbl _ e; omega
  have hlH : H.length + 1 ≤ 1000000 := by rw [← h.rep.len]; exact hl
  have HP := hide (hpush_any p v H y 0 W hqW h.hp hyW hnf (by omega) hlH)
  have cmW := KW.cell cm (fun e => h.mp (e : p = m).symm)
  have mbW : W.heap[m]? = some (.map es' cl') := by rw [← HW.out]; exact mb2
  have fin : ∀ w2 v2 H2, H2.Perm (y :: H) → Hp H2 H2.length → Wq w2 p v2 H2 → Kp (fun k => k = p ∨ k = y.b ∨ Ft v H k) W w2 → (v2.ownBlock = v.ownBlock ∨ ∃ g, v2.ownBlock = some g ∧ W.heap.size ≤ g ∧ g < w2.heap.size) → Kc p W w2 → SetS p F (setL id till L) w w2 := fun w2 v2 H2 hp2 hP2 hq2 hk2 hb2 hc2 => by
    have hsW : w.heap.size < W.heap.size := by
      rw [← HW.out]
      have := KS.size
      rw [World.size_alloc] at this
      omega
    have hs2 := hk2.size
    have hmk : ¬ (m = p ∨ m = y.b ∨ Ft v H m) := fun e => by
      rcases e with e | e | e
      · exact h.mp e
      · omega
      · exact h.mf e
    have hft : ∀ k, Ft v2 H2 k → Ft v H k ∨ (w.heap.size ≤ k ∧ k < w2.heap.size) := fun k hk => by
      rcases Ft.iff.1 hk with hk | hk
      · rcases hb2 with e | ⟨g, e, g1, g2⟩
        · exact .inl (.inl (e ▸ hk))
        · rw [e] at hk
          cases hk
          exact .inr ⟨by omega, g2⟩
      · have := (hp2.map Tm.b).mem_iff.1 hk
        rw [List.map_cons, List.mem_cons] at this
        rcases this with e | e
        · exact .inr ⟨by omega, by omega⟩
        · exact .inl (Ft.iff.2 (.inr e))
    have hrep := h.rep.setNew y (by rw [HY]; exact hn)
    have hyi : y.id = id := by rw [HY]
    have hyt : y.till = till := by rw [HY]
    rw [hyi, hyt] at hrep
    have hmo := mo_put h.mo hp2 (by rw [hyi]; exact hn)
    rw [hyi, hyb] at hmo
    refine ⟨fun k => F k ∨ (w.heap.size ≤ k ∧ k < w2.heap.size), ⟨m, v2, H2, _, es', cl', ⟨hq2, hP2, hrep.of hp2, (hc2 1 (by decide)).trans cmW, by rw [hk2.block m (by omega) hmk]; exact mbW, hM', hmo, h.mp, fun hh => ?_, fun k hk => ?_, fun k hk => ?_⟩⟩, fun k hk => .inl hk, fun k hk => by
      rcases hk with hk | hk
      · exact .inl hk
      · exact .inr hk.1, KW.trans hk2 (fun k _ e => by cases e; exact h.foot _ (.inr (.inl rfl))) (fun k hk e => ?_)⟩
    · rcases hft m hh with e | e
      · exact h.mf e
      · omega
    · rcases hk with hk | hk | hk
      · exact .inl (h.foot k (.inl hk))
      · exact .inl (h.foot k (.inr (.inl hk)))
      · rcases hft k hk with e | e
        · exact .inl (h.foot k (.inr (.inr e)))
        · exact .inr e
    · rcases hk with hk | hk
      · have := h.lt k hk
        omega
      · exact hk.2
    · rcases e with e | e | e
      · exact h.foot k (.inl e)
      · omega
      · exact h.foot k (.inr (.inr e))
  have FIN := hide fin
  have Hh := hide h
  clear h hnew fin hqW hyW
  rw [hyb] at HP
  unfold wqI at *
  go_enter Try.func11, Try.ntmps11
  go_upto_region 9 with fail
  rw [HW.out]
  go_wp2_with (go_at_call 23; refine HP.out.mono ?_; rintro e w2 ⟨rfl, v2, H2, hp2, hP2, hq2, hk2, hb2, hc2⟩)
  go_end0
  exact ⟨rfl, FIN.out w2 v2 H2 hp2 hP2 hq2 (by rw [hyb]; exact hk2) hb2 hc2⟩

end Go.Proofs.Ytpoahegccjgnjaa
