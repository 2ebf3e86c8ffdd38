/- Contract, over the turned program: check.Reached tells which instructions can be come to. Conditions: those that each theorem states. -/
import Derived.Test.YtnldjloiafilmaaDoorQI
namespace Go.Proofs.YtnldjloiafilmaaDoor
open Go.RowKit
set_option linter.unusedVariables false

def natI (l : List Nat) : List Int := l.map (fun j : Nat => (j : Int))
theorem natI_snoc (l : List Nat) (k : Nat) : natI (l ++ [k]) = natI l ++ [(k : Int)] := by simp [natI]
theorem natI_append (l m : List Nat) : natI (l ++ m) = natI l ++ natI m := by simp [natI]
theorem natI_len (l : List Nat) : (natI l).length = l.length := by simp [natI]
def mesR (n : Nat) (out : Nat → Bool) (td : List Nat) : Nat := td.length + 3 * (n - cntF n out)

set_option maxRecDepth 100000 in
set_option maxHeartbeats 2000000 in
theorem qreached_any (v : Value) (l : List In) (w : World) (hT : Ins w v l) (hwf : ∀ x ∈ l, x.wf) (hG : Glob w) :
    Calls Tryd.prog 25 #[v] w fun e w' => ∃ v', e = .returned v' ∧ Sl Value.bool w'.heap.size w' v' (reI l) ∧ w.grownBy w' none := by
  obtain ⟨a, c, rfl, h1, h2, h3⟩ := hT
  have hT : Ins w (.slice a l.length c) l := ⟨a, c, rfl, h1, h2, h3⟩
  have HT := hide hT
  have HK := hide (qcheck_any _ l w hT hwf hG)
  clear h1 h2 h3 hT
  obtain ⟨E, HE⟩ : ∃ E, Hid ((chkI l).1 = E) := ⟨_, rfl⟩
  obtain ⟨N, HN⟩ : ∃ N, Hid ((chkI l).2 = N) := ⟨_, rfl⟩
  rw [HE.out, HN.out] at HK
  by_cases h0 : E = 0
  · have HR : Hid (RunOk l) := (chk_ok l).1 (HE.out.trans h0)
    have HL : Hid (reI l = rchI l) := by show _ = _; unfold reI; rw [HE.out, if_pos h0]
    rw [HL.out]
    subst h0
    have hn0 : 0 < l.length := HR.out.l0
    have hn1 : l.length ≤ 64 := HR.out.l1
    go_enter Tryd.func25, Tryd.ntmps25
    go_wp2_with fail
    refine HK.out.mono ?_
    rintro e w1 ⟨rfl, hg1⟩
    obtain ⟨w2, hmk, hO2, hg2⟩ := make_bools w1 l.length (by omega)
    go_wp2_with (refine wpList_make_at rfl (.tmp 16) (.tmp 16) 53 rfl _ _ rfl rfl hmk ?_)
    have hsz1 := hg1.size
    have hsz2 := hg2.size
    have hlt2 : w1.heap.size < w2.heap.size := (hO2.lt _ rfl).2
    have hgA := World.grownBy_alloc w2 (.cells #[.int .i64 0] 3) none
    have hO3 : Ow Value.bool 4 (w2.alloc (.cells #[.int .i64 0] 3)) w.heap.size (.slice (some ⟨w1.heap.size, 0, none⟩) l.length l.length) (bl l.length (fun _ => false)) := (hO2.keptN (Kp.ofN hgA none')).monoQ hsz1
    have hO4 : Ow (Value.int .i64) 3 (w2.alloc (.cells #[.int .i64 0] 3)) w.heap.size (.slice (some ⟨w2.heap.size, 0, none⟩) 1 1) (natI [0]) := ⟨rfl, .inr ⟨_, 1, #[.int .i64 0], rfl, by omega, heap_alloc_new _ _, by decide, by decide, rfl, rfl⟩⟩
    have hg3 : w.grownBy (w2.alloc (.cells #[.int .i64 0] 3)) none := grown_up (grown_up hg1 hg2) hgA
    have hm0 : mesR l.length (fun _ => false) [0] ≤ 200 := by unfold mesR; simp; omega
    generalize hgb : w1.heap.size = g5 at *
    have Hne : Hid (w2.heap.size ≠ g5) := by show _ ≠ _; omega
    have Hin := hide (rinv_init HR.out)
    clear hmk hO2 hg1 hg2 hsz1 hsz2 hlt2 hgA hgb HK
    generalize hgc : w2.heap.size = g6 at *
    go_loopg [6] (mesR l.length (fun _ => false) [0]) (fun gk u wr => gk ≤ 200 ∧ ∃ (out : Nat → Bool) (td : List Nat), Hid (RInv l out td ∧ mesR l.length out td = gk) ∧ Ow Value.bool 4 wr w.heap.size (.slice (some ⟨g5, 0, none⟩) l.length l.length) (bl l.length out) ∧
      Ow (Value.int .i64) 3 wr w.heap.size u (natI td) ∧ Hid (∀ k, u.ownBlock = some k → k ≠ g5) ∧ w.grownBy wr none)
    case atStart => exact ⟨hm0, _, _, ⟨Hin.out, rfl⟩, hO3, hO4, fun k hk => by have e : g6 = k := Option.some.inj hk; rw [← e]; exact Hne.out, hg3⟩
    case round =>
      clear hO3 hO4 hg3 hm0 Hin hgc
      obtain ⟨hgk, out, td, HI, hOb, hOt, Hap, hg⟩ := hrel
      rcases List.eq_nil_or_concat td with rfl | ⟨td0, k, rfl⟩
      · have hv6 : u6 = .slice none 0 0 ∨ ∃ g cap, u6 = .slice (some ⟨g, 0, none⟩) 0 cap := by
          rcases hOt.shape with ⟨h1, _⟩ | ⟨g, cap, h1, _⟩
          · exact .inl h1
          · exact .inr ⟨g, cap, h1⟩
        have Hend := hide (rinv_end HR.out HI.out.1)
        rcases hv6 with rfl | ⟨g, cap, rfl⟩
        · go_wp2
          go_ret
          exact ⟨_, rfl, by rw [← Hend.out]; exact hOb.sl, hg⟩
        · go_wp2
          go_ret
          exact ⟨_, rfl, by rw [← Hend.out]; exact hOb.sl, hg⟩
      · rw [List.concat_eq_append] at HI hOt
        rw [natI_snoc] at hOt
        obtain ⟨g, cap, hv6, hcap, hgB, hgw⟩ := hOt.block (by simp)
        rw [List.length_append, natI_len, List.length_singleton] at hv6 hcap
        subst hv6
        have hkn : k < l.length := (HI.out.1.tr k (by simp)).2
        have hck := (hOt.cellQ td0.length (by simp [natI_len])).1
        rw [List.getElem_append_right (by simp [natI_len])] at hck
        simp only [natI_len, Nat.sub_self, List.getElem_cons_zero] at hck
        have hOt' := hOt.takeQ
        rw [natI_len] at hOt'
        have hml : td0.length ≤ 200 := by have := HI.out.2; unfold mesR at this; simp at this; omega
        obtain ⟨cb, cf⟩ := hOb.cellQ k (by rw [bl_len]; exact hkn)
        rw [bl_at] at cb
        have hmI : (td0.length : Int) < (td0.length : Int) + 1 := by omega
        have Hold : Hid (out k = true → RInv l out td0 ∧ mesR l.length out td0 < gk) := fun h => ⟨rinv_old HI.out.1 h, by have := HI.out.2; unfold mesR at this ⊢; simp at this; omega⟩
        have Hnew : Hid (out k = false → RInv l (upB out k) (td0 ++ ldN l k) ∧ mesR l.length (upB out k) (td0 ++ ldN l k) < gk) := fun h => ⟨rinv_new HR.out HI.out.1, by
          have h1 := HI.out.2
          have h2 := cnt_up l.length out k hkn h
          have h3 := ldN_len l k
          have h4 := cntF_le l.length (upB out k)
          unfold mesR at h1 ⊢
          simp at h1 ⊢
          omega⟩
        have Hg5 : Hid (g ≠ g5) := Hap.out g rfl
        have hg5 := (hOb.lt g5 rfl)
        clear HI Hap
        cases hok : out k with
        | true =>
          rw [hok] at cb
          have Hs := hide (Hold.out hok)
          clear hok hOt Hnew Hold
          generalize hmm : td0.length = m at *
          clear hmm
          have hki : (k : Int) < (l.length : Int) := by omega
          go_wp2
          go_roundg (mesR l.length out td0)
          case measure => exact Hs.out.2
          case rel => exact ⟨by have := Hs.out.2; omega, out, td0, ⟨Hs.out.1, rfl⟩, hOb, hOt', fun j hj => by have e : g = j := Option.some.inj hj; rw [← e]; exact Hg5.out, hg⟩
        | false =>
          rw [hok] at cb
          have Hs := hide (Hnew.out hok)
          clear hok hOt Hnew Hold
          generalize hmm : td0.length = m at *
          have hki : (k : Int) < (l.length : Int) := by omega
          have hst := hOb.stored k true
          rw [bl_set] at hst
          have hgS : w.grownBy (wr.setCell ⟨g5, k, none⟩ (.bool true)) none := grown_new hg hst.2 (fun j hj => by cases hj; exact hg5.1)
          have hOtS : Ow (Value.int .i64) 3 (wr.setCell ⟨g5, k, none⟩ (.bool true)) w.heap.size (.slice (some ⟨g, 0, none⟩) m cap) (natI td0) := hOt'.kept (Kp.ofGrown hst.2 (S := only g5) (fun j hj _ => by cases hj; rfl)) (fun j hj hs => Hg5.out ((Option.some.inj hj).trans hs))
          have hObS := hst.1
          have hszS : (wr.setCell ⟨g5, k, none⟩ (.bool true)).heap.size = wr.heap.size := by simp
          go_upto_region 11 with fail
          clear hst hOb hOt' cb cf hck
          generalize wr.setCell ⟨g5, k, none⟩ (.bool true) = wS at *
          obtain ⟨_, _, _, b, off, rfl, hb, hcs⟩ := (HT.out.keptN hgS).at k hkn
          have Hld := hide (ldI_nat HR.out k hkn)
          have hk64 : k < 64 := by omega
          generalize l.getD k d0 = x at *
          obtain ⟨c0, c1, c2, c3, c4, c5, c6⟩ := cells7 hcs
          have HLd := hide (qleads_any x k)
          unfold In.val at HLd
          clear hcs
          have hsz := hgS.size
          go_wp2_with fail
          refine (HLd.out wS hk64).mono ?_
          rintro e w3 ⟨v3, rfl, hS3, hg3⟩
          rw [Hld.out] at hS3
          have hS3 : Sl (Value.int .i64) w3.heap.size w3 v3 (natI (ldN l k)) := hS3
          have hOb3 := hObS.keptN (Kp.ofN hg3 none')
          have hOt3 := hOtS.keptN (Kp.ofN hg3 none')
          have hsz3 := hg3.size
          have Hl2 := hide (ldN_len l k)
          obtain ⟨v4, w4, hr4, hO4, hg4, hn4⟩ := app_ints2 w3 w.heap.size _ v3 _ _ _ hOt3 hS3 (by omega) (by rw [natI_len, natI_len]; have := Hl2.out; omega)
          have Hn4 := hide hn4
          have hgg := grown_new (grown_up hgS hg3) hg4 (fun j hj => by have e : g = j := Option.some.inj hj; omega)
          have hOb4 := hOb3.kept (Kp.ofGrown hg4 (S := only g) (fun j hj _ => (Option.some.inj hj).symm)) (fun j hj hs => by have e : g5 = j := Option.some.inj hj; have := Hg5.out; unfold only at hs; omega)
          clear hn4 hOb3 hOt3 hg4 hS3 hObS hOtS c0 c1 c2 c3 c4 c5 c6
          rw [← natI_append] at hO4
          go_wp2_with (at_builtin; refine iwpList_app_at rfl (.tmp 41) (.tmp 47) 55 55 rfl _ _ rfl rfl hr4 ?_)
          go_roundg (mesR l.length (upB out k) (td0 ++ ldN l k))
          case measure => exact Hs.out.2
          case rel => exact ⟨by have := Hs.out.2; omega, upB out k, td0 ++ ldN l k, ⟨Hs.out.1, rfl⟩, hOb4, hO4, fun j hj => by
            rcases Hn4.out with h | h
            · rw [h] at hj; have e : g = j := Option.some.inj hj; rw [← e]; exact Hg5.out
            · rw [h] at hj; have e : w3.heap.size = j := Option.some.inj hj; omega, hgg⟩
  · have HL : Hid (reI l = []) := by show _ = _; unfold reI; rw [HE.out, if_neg h0]
    rw [HL.out]
    have t0 : (E != 0) = true := by simp [h0]
    clear h0
    go_enter Tryd.func25, Tryd.ntmps25
    go_wp2_with (go_at_call 15; refine HK.out.mono ?_; rintro e w1 ⟨rfl, hg1⟩)
    go_ret
    exact ⟨_, rfl, Sl.nil _ _ _, hg1⟩

end Go.Proofs.YtnldjloiafilmaaDoor
