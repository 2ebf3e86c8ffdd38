/- Contracts, over the turned program: a device's Sync. Conditions: those that each theorem states. -/
import Derived.Test.YtgfijbbibafdfaaGreatDIter
namespace Go.Proofs.YtgfijbbibafdfaaGreat
open Go.RowKit
open Go.ChangeMaps (setBlock)
set_option linter.unusedVariables false

/-- Sync under way: what has been met is sure. -/
def SyR (w : World) (p : Dp) (D : Dv) (r : Nat) (es : Array MapEntry) (cl : Nat) (wr : World) (seen : Array Nat) (c0 : Nat) (sv : Nat → List UInt8) : Prop :=
  wr.heap[r]? = some (.mapIter (some p.m) cl seen c0) ∧ cl ≤ c0 ∧ wr.heap[p.m]? = some (.map es cl) ∧ Dev wr p { D with s := sv } ∧ Kp p.mem w wr ∧
    (∀ e ∈ es.toList, seen.contains e.born = true → ∀ i x, D.u i = some x → e.key = .int .i64 (i : Int) → sv i = x) ∧
    (∀ k : Nat, (∀ e ∈ es.toList, seen.contains e.born = true → e.key ≠ .int .i64 (k : Int)) → sv k = D.s k)

theorem SyR.done {w : World} {p : Dp} {D : Dv} {r : Nat} {es : Array MapEntry} {cl : Nat} {wr : World} {seen : Array Nat} {c0 : Nat} {sv : Nat → List UInt8} (h : SyR w p D r es cl wr seen c0 sv) (hM : Mp D.u es.toList cl) (h0 : (leftOf es seen).size = 0) : sv = D.at := by
  obtain ⟨_, _, _, _, _, h1, h2⟩ := h
  have hall := all_seen es seen h0
  funext k
  unfold Dv.at
  cases hu : D.u k with
  | none =>
    rw [h2 k (fun e he _ hk => by
      obtain ⟨i, x, hi, hk', _⟩ := hM.e1 e he
      rw [hk] at hk'
      have : i = k := by have := (Value.int.inj hk').2; omega
      subst this
      rw [hu] at hi
      cases hi)]
    rfl
  | some x =>
    obtain ⟨e, he, hk⟩ := hM.e2 k x hu
    rw [h1 e he (hall e he) k x hu hk]
    rfl
theorem SyR.step {w : World} {p : Dp} {D : Dv} {r : Nat} {es : Array MapEntry} {cl : Nat} {wr : World} {seen : Array Nat} {c0 : Nat} {sv : Nat → List UInt8} (h : SyR w p D r es cl wr seen c0 sv) (hM : Mp D.u es.toList cl) {e : MapEntry} {i : Nat} {x : List UInt8} {w3 : World}
    (he : e ∈ es.toList) (hu : D.u i = some x) (hk : e.key = .int .i64 (i : Int)) (hr : w3.heap[r]? = some (.mapIter (some p.m) cl (seen.push e.born) cl)) (hm : w3.heap[p.m]? = some (.map es cl)) (hD : Dev w3 p { D with s := upd sv i x }) (hK : Kp p.mem w w3) :
    SyR w p D r es cl w3 (seen.push e.born) cl (upd sv i x) := by
  obtain ⟨_, _, _, _, _, h1, h2⟩ := h
  refine ⟨hr, Nat.le_refl _, hm, hD, hK, fun e' he' hs i' x' hu' hk' => ?_, fun k hk' => ?_⟩
  · by_cases ei : i' = i
    · subst ei
      rw [hu] at hu'
      cases hu'
      simp [upd]
    · simp only [upd, ei, if_false]
      rw [contains_push] at hs
      cases hb : seen.contains e'.born
      · rw [hb, Bool.false_or] at hs
        have hbe : e'.born = e.born := by simpa using hs
        exfalso
        have hn := hM.e5
        have : e' = e := born_inj hn he' he hbe
        subst this
        rw [hk] at hk'
        have := (Value.int.inj hk').2
        omega
      · exact h1 e' he' hb i' x' hu' hk'
  · have hki : k ≠ i := by
      rintro rfl
      refine hk' e he ?_ hk
      rw [contains_push]
      simp
    simp only [upd, hki, if_false]
    exact h2 k (fun e' he' hs => hk' e' he' (by rw [contains_push, hs]; rfl))

/-- A variable of a sector's own, filled. -/
theorem sec_var (W : World) (x : List UInt8) (hx : x.length = 64) : ∃ W4 W5, Hid (W.alloc (.cells (bcs noughts).toArray 79) = W4) ∧ Hid (W4.setCells W.heap.size 0 (bcs x) = W5) ∧ W4.there W.heap.size 0 (bcs x).toArray.size ∧ W5.rangeAt W.heap.size 0 (bcs x) ∧ W5.there W.heap.size 0 64 ∧ Kp none' W W5 ∧ Kp none' W W4 := by
  have ht := sec_there W noughts
  have hk2 := (Kp.alloc none' W (.cells (bcs noughts).toArray 79))
  have hk3 := hk2.trans (Kp.setCells (S := only W.heap.size) W.heap.size rfl (bcs x) 0 _) (S'' := none') (fun _ _ h => h) (fun k hk h => absurd hk (by unfold only at h; omega))
  have eSz : (bcs x).toArray.size = noughts.length := by rw [List.size_toArray, bcs_len, noughts_len, hx]
  have eL : (bcs x).length = noughts.length := by rw [bcs_len, noughts_len, hx]
  refine ⟨_, _, rfl, rfl, by rw [eSz]; exact ht, World.rangeAt_setCells_same _ _ _ _ (by rw [eL]; exact ht), ?_, hk3, hk2⟩
  have := World.there_setCells ht W.heap.size 0 (bcs x)
  rw [noughts_len] at this
  exact this

/-- Behind a Sync. -/
def Dv.sync (D : Dv) : Dv := if stillB D then D.called else { D.called with s := D.at, u := fun _ => none }
def syE (D : Dv) : Int := if stillB D then 9 else 0
set_option maxRecDepth 100000 in
set_option maxHeartbeats 800000 in
theorem sync_any (p : Dp) (D : Dv) (w : World) (hD : Dev w p D) (hc0 : 0 ≤ D.c) (hc1 : D.c ≤ 1000000) :
    Calls Tryz.prog 32 #[.pointer (some ⟨p.d, 0, none⟩)] w fun e w' => e = .returned (.int .i64 (syE D)) ∧ Dev w' p D.sync ∧ Kp p.mem w w' := by
  by_cases hst : stillB D = true
  · have hE : syE D = 9 := by simp [syE, hst]
    have hW : D.sync = D.called := by simp [Dv.sync, hst]
    rw [hE, hW]
    go_enter Tryz.func32, Tryz.ntmps32
    go_wp2_with (go_at_call 53; refine (begin_any _ _ _ hD hc0 hc1).mono ?_; rintro e w1 ⟨rfl, hD1, hk1⟩; rw [if_pos hst])
    go_ret
    exact ⟨rfl, hD1, hk1⟩
  · have hE : syE D = 0 := by simp [syE, hst]
    have hW : D.sync = { D.called with s := D.at, u := fun _ => none } := by simp [Dv.sync, hst]
    rw [hE, hW]
    clear hE hW
    go_enter Tryz.func32, Tryz.ntmps32
    go_upto_region 4 with (go_at_call 53; refine (begin_any _ _ _ hD hc0 hc1).mono ?_; rintro e w1 ⟨rfl, hD1, hk1⟩; rw [if_neg hst])
    obtain ⟨es, cl, hm, hM⟩ := hD1.mp
    have h1 := hD1.c1
    have hrr := run_range_map (P := Tryz.prog) w1 62 _ _ p.m es cl Tryz.underlying62 hm
    have hka := Kp.alloc none' w1 (.mapIter (some p.m) cl #[] cl)
    have hr0 : (w1.alloc (.mapIter (some p.m) cl #[] cl)).heap[w1.heap.size]? = some (.mapIter (some p.m) cl #[] cl) := heap_alloc_new w1 _
    have S0 : SyR w p D.called w1.heap.size es cl (w1.alloc (.mapIter (some p.m) cl #[] cl)) #[] cl D.called.s :=
      ⟨hr0, Nat.le_refl _, by rw [hka.block _ hD1.lm (fun h => h)]; exact hm, hD1.keptN hka, hk1.thenN hka, fun e he hs => by simp at hs, fun k _ => rfl⟩
    have hrw : w.heap.size ≤ w1.heap.size := hk1.size
    have hrs : p.s ≠ w1.heap.size := Nat.ne_of_lt hD1.ls
    have hrm : p.m ≠ w1.heap.size := Nat.ne_of_lt hD1.lm
    have hrd : p.d ≠ w1.heap.size := Nat.ne_of_lt hD1.ld
    obtain ⟨w2, H2⟩ : ∃ w2, Hid (w1.alloc (.mapIter (some p.m) cl #[] cl) = w2) := ⟨_, rfl⟩
    rw [H2.out] at S0 hrr
    generalize w1.heap.size = r at *
    clear hm hka hr0 hD
    go_wp2_with (at_range; refine wpList_range_at rfl (.tmp 14) 62 rfl _ rfl hrr ?_)
    go_frame
    clear hrr
    go_loopw [4] (fun _ wr => ∃ seen c0 sv, SyR w p D.called r es cl wr seen c0 sv) (fun _ wr => itLeft wr r es)
    case atStart => exact ⟨_, _, _, S0⟩
    case round =>
      obtain ⟨seen, c0, sv, hS⟩ := hrel
      clear S0
      go_upto_region 5 with fail
      refine wp_region_lit ?_
      refine wpList_next_it rfl (.tmp 15) rfl r p.m cl c0 seen es D.called.u rfl hS.1 hS.2.2.1 hM hS.2.1 ?_ ?_
      · intro h0
        have hsv := hS.done hM h0
        obtain ⟨_, _, hm, hDr, hKr, _, _⟩ := hS
        rw [hsv] at hDr
        clear hsv h0
        have h1r := hDr.c1
        have hcl := fun ty => run_clearM ty hm
        have hF := hDr.setM #[] cl (fun _ => none) (Mp.nil cl) (fun i x h => by cases h)
        go_frame
        go_upto_region 8 with fail
        clear hm
        go_wp2_with (refine wpList_clear_at _ rfl (.tmp 28) 62 rfl _ rfl (hcl _) ?_)
        go_ret
        exact ⟨rfl, hF, hKr.then (Kp.setBlock _ _ _ (.inr (.inr rfl)))⟩
      · intro e i x w3 he hns hu hk hK3 hsz hr3 hen hlt
        have hKr := hS.2.2.2.2.1
        have hm3 : w3.heap[p.m]? = some (.map es cl) := by rw [hK3.block _ hS.2.2.2.1.lm hrm]; exact hS.2.2.1
        have hD3 : Dev w3 p { D.called with s := sv } := hS.2.2.2.1.kept hK3 (fun k hk h => by
          unfold only at h
          rcases hk with rfl | rfl | rfl
          · exact hrd h
          · exact hrs h
          · exact hrm h)
        have hK3' : Kp p.mem w w3 := hKr.trans hK3 (fun _ _ h => h) (fun k hk h => absurd hk (by unfold only at h; omega))
        go_frame
        go_upto_region 6 with fail
        have hxl := (hD3.l2 i x hu).2
        have hi := (hD3.l2 i x hu).1
        have HS : Hid (SyR w p D.called r es cl wr seen c0 sv) := hS
        have hlr : r < w3.heap.size := (Array.getElem?_eq_some_iff.1 hr3).1
        obtain ⟨w4, w5, H4, H5, ht, hl5, ht5, hk5, hk4⟩ := sec_var w3 x hxl
        have hD5 := hD3.keptN hk5
        have hr5 := (hk5.block r hlr (fun h => h)).trans hr3
        have hm5 := (hk5.block p.m hD3.lm (fun h => h)).trans hm3
        have hI : (Tryz.prog.info? 79).map (·.size) = some (bcs x).toArray.size := by rw [infoSec, List.size_toArray, bcs_len, hxl]
        have hI3 : (Tryz.prog.info? 79).map (·.size) = some (bcs x).length := by rw [infoSec, bcs_len, hxl]
        have h1c : ((bcs x).toArray).all (·.oneCell') = true := all_oneCell_toArray (bcs_one x)
        have hUs : Tryz.prog.underlying 79 = _ := Tryz.underlying79
        have HM : Hid (Mp D.called.u es.toList cl) := hM
        have HE : Hid (e ∈ es.toList ∧ D.called.u i = some x ∧ e.key = .int .i64 (i : Int)) := ⟨he, hu, hk⟩
        have HL : Hid (itLeft wr r es = (leftOf es seen).size) := itLeft_eq es hS.1
        have HLt : Hid ((leftOf es (seen.push e.born)).size < (leftOf es seen).size) := hlt
        have HK5 : Hid (Kp p.mem w w5) := hK3'.thenN hk5
        have HR5 : Hid (w5.heap[r]? = some (.mapIter (some p.m) cl (seen.push e.born) cl)) := hr5
        have HM5 : Hid (w5.heap[p.m]? = some (.map es cl)) := hm5
        clear hM hS he hu hk hlt hns hr3 hm3 hD3 hK3 hK3' hKr hr5 hm5 hk5 hsz hD1 hk1 hk4 ht5
        generalize hg : w3.heap.size = g at *
        go_upto_region 7 with (first
          | (refine wpList_alloc_sec rfl rfl ?_; rw [H4.out, hg])
          | (refine wpList_store_mid rfl 79 (.tmp 5) (.tmp 20) rfl _ 0 (bcs x).toArray rfl rfl ht hI h1c ?_; rw [List.toList_toArray, H5.out]))
        clear hen ht hg
        go_wp2_with (first
          | (refine wpList_load_mid rfl 79 (.tmp 5) rfl g 0 rfl (bcs x) _ hl5 hUs rfl hI3 ?_)
          | (go_at_call 40; refine (settle_any p { D.called with s := sv } i x _ hD5 hi hxl).mono ?_; rintro e' w6 ⟨rfl, hD6, hk6⟩))
        have hrl5 : r < w5.heap.size := (Array.getElem?_eq_some_iff.1 HR5.out).1
        have hm6 : w6.heap[p.m]? = some (.map es cl) := by rw [hk6.block _ hD5.lm (fun h => hD5.sm h.symm)]; exact HM5.out
        have hr6 : w6.heap[r]? = some (.mapIter (some p.m) cl (seen.push e.born) cl) := by rw [hk6.block _ hrl5 (fun h => hrs h.symm)]; exact HR5.out
        have S6 := HS.out.step HM.out HE.out.1 HE.out.2.1 HE.out.2.2 hr6 hm6 hD6 (HK5.out.then (hk6.mono (fun k _ h => .inr (.inl h))))
        go_roundw
        case rel => exact ⟨_, _, _, S6⟩
        case measure =>
          rw [HL.out, itLeft_eq es hr6]
          exact HLt.out

end Go.Proofs.YtgfijbbibafdfaaGreat
