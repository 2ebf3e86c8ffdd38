/- What package text's variables hold, as the program's text lays them. No conditions but those that each theorem states. -/
import Derived.Test.YthopmlgfklhagaaGreatDoorRows
import Derived.Test.YthopmlgfklhagaaGreatDoorIOpen
import Derived.Test.YthopmlgfklhagaaGreatDoorJTa
import Derived.LaidSub
import Derived.Lib.LaidTab
namespace Go.Proofs.YthopmlgfklhagaaGreatDoor
open Go.ChangeShapes Go.WideShapes Go.ChangeAt Go.RowKit Go.Joins
set_option linter.unusedVariables false

/-- A table of texts as a row lists it. -/
def strData {H : Type} (ss : List (List UInt8)) : DataW H := .agg (ss.map fun s => .lit (.string s))
theorem cells_of_strs {H : Type} {enc : TypeId × Value → H} {P : Program} {w : World} {base : Nat} {sp : Nat → Bool} {held : Bool} {fuel : Nat} {t e : TypeId} {n : Nat} {cs : List Value} {ss : List (List UInt8)} {p : List MemPlace}
    (ht : P.underlying t = some (.array n e)) (he : P.underlying e = some .string) (hce : P.cellsOf e = 1) (hct : P.cellsOf t = n)
    (h : DataW.trod enc P w base sp held fuel t cs = some (strData ss, p)) : cs = ss.map fun s => Value.string (mkB s) := by
  cases fuel with
  | zero => simp [DataW.trod] at h
  | succ fuel =>
    simp only [DataW.trod, ht, hce, hct, Nat.mul_one] at h
    split at h
    · rename_i hl
      obtain ⟨xs, hm, hx⟩ := Option.map_eq_some_iff.1 h
      have hxs : xs.map (·.1) = ss.map fun s => (DataW.lit (.string s) : DataW H) := by
        have := congrArg Prod.fst hx
        simpa [strData] using this
      have hxl : xs.length = n := by simpa using Lib.mapM_length hm
      have hzl : ss.length = n := by
        have := congrArg List.length hxs
        simp at this
        omega
      apply List.ext_getElem?
      intro i
      by_cases hi : i < n
      · obtain ⟨b, hb, hf⟩ := Lib.mapM_at hm i i (by simp [hi])
        obtain ⟨s, hc, rfl, _⟩ := DataW.trod_string he hf
        have h1 : cs[i]? = some (.string s) := by
          have := congrArg (·[0]?) hc
          simpa [List.getElem?_take, List.getElem?_drop] using this
        have h2 : (xs.map (·.1))[i]? = some (DataW.lit (.string s.data.toList) : DataW H) := by simp [hb]
        rw [hxs] at h2
        simp only [List.getElem?_map, Option.map_eq_some_iff, DataW.lit.injEq, Lit.string.injEq] at h2
        obtain ⟨s', hs', e⟩ := h2
        rw [h1, List.getElem?_map, hs', Option.map_some, e, mkB_self]
      · rw [List.getElem?_eq_none (by omega), List.getElem?_eq_none (by simp; omega)]
    · cases h
theorem var_strs {P : Program} {W : World} {name : String} {ss : List (List UInt8)} {rest : List (String × DataW Unit)} {g : Nat} {t e : TypeId} {n : Nat}
    (hg : P.globalNamed name = some g) (hty : (P.globals[g]?).map (·.type) = some t) (ht : P.underlying t = some (.array n e)) (he : P.underlying e = some .string) (hce : P.cellsOf e = 1) (hct : P.cellsOf t = n)
    (h : laidMet P ((name, strData ss) :: rest) W) : W.var? P name = some (ss.map fun s => Value.string (mkB s)).toArray := by
  obtain ⟨ps, ⟨g', t', cs, fuel, p, q, hg', ht', hvar, hd, _, _⟩, _⟩ := h
  obtain rfl := Option.some.inj (hg.symm.trans hg')
  obtain rfl := Option.some.inj (hty.symm.trans ht')
  rw [hvar, ← cells_of_strs ht he hce hct hd]
theorem var_err {P : Program} {W : World} {name nm : String} {d : DataW Unit} {rest : List (String × DataW Unit)} {g : Nat} {t : TypeId} {ms : Array (String × TypeId)}
    (hg : P.globalNamed name = some g) (hty : (P.globals[g]?).map (·.type) = some t) (hi : P.underlying t = some (.interface ms))
    (h : laidMet P ((name, .iface nm d) :: rest) W) : AnErr W g := by
  obtain ⟨ps, ⟨g', t', cs, fuel, p, q, hg', ht', hvar, hd, _, _⟩, _⟩ := h
  obtain rfl := Option.some.inj (hg.symm.trans hg')
  obtain rfl := Option.some.inj (hty.symm.trans ht')
  obtain ⟨f', u, v, e, _, _⟩ := iface_of_trod hi hd
  have hc := World.var?_cell hg hvar 0
  refine ⟨_, hc.trans (by rw [show cs = #[.iface u v] from by cases cs; simp_all]; rfl), .inr ⟨u, v, rfl⟩⟩

theorem gNames : Tryz.prog.globalNamed "factotum/text.names" = some 0 := by kernel_rfl
theorem gNamesT : (Tryz.prog.globals[0]?).map (·.type) = some 48 := by kernel_rfl
theorem gPow : Tryz.prog.globalNamed "internal/strconv.uint64pow10" = some 7 := by kernel_rfl
theorem gPowT : (Tryz.prog.globals[7]?).map (·.type) = some 142 := by kernel_rfl
theorem gSyn : Tryz.prog.globalNamed "strconv.ErrSyntax" = some 5 := by kernel_rfl
theorem gSynT : (Tryz.prog.globals[5]?).map (·.type) = some 74 := by kernel_rfl
theorem gRan : Tryz.prog.globalNamed "strconv.ErrRange" = some 6 := by kernel_rfl
theorem gRanT : (Tryz.prog.globals[6]?).map (·.type) = some 74 := by kernel_rfl
theorem cellsSt : Tryz.prog.cellsOf 9 = 1 := by kernel_rfl
theorem cellsU64 : Tryz.prog.cellsOf 93 = 1 := by kernel_rfl
theorem cellsNm : Tryz.prog.cellsOf 48 = 20 := by kernel_rfl
theorem cellsPw : Tryz.prog.cellsOf 142 = 20 := by kernel_rfl
set_option maxRecDepth 100000 in
theorem row_of_var {P : Program} {W : World} {name : String} {g : Nat} {cs : Array Value} (hg : P.globalNamed name = some g) (h : W.var? P name = some cs) : ∃ t fr, W.heap[g]? = some (.cells cs t fr) := by
  unfold World.var? at h
  rw [hg, Option.bind_some] at h
  split at h
  · next c t fr hb => cases h; exact ⟨t, fr, hb⟩
  · cases h
set_option maxRecDepth 100000 in
/-- From the row's condition to the variables as they lie in memory. -/
theorem g14_of {L : List (String × DataW Unit)} {W : World} (h : laidMet Tryz.prog L W)
    (h1 : L.filter (fun x => x.1 == "factotum/code.operands") = [("factotum/code.operands", Rows.laid_factotum_code_operands)])
    (h2 : L.filter (fun x => x.1 == "factotum/text.names") = [("factotum/text.names", Rows.laid_factotum_text_names)])
    (h3 : L.filter (fun x => x.1 == "internal/strconv.uint64pow10") = [("internal/strconv.uint64pow10", Rows.laid_internal_strconv_uint64pow10)])
    (h4 : L.filter (fun x => x.1 == "strconv.ErrSyntax") = [("strconv.ErrSyntax", Rows.laid_strconv_ErrSyntax)])
    (h5 : L.filter (fun x => x.1 == "strconv.ErrRange") = [("strconv.ErrRange", Rows.laid_strconv_ErrRange)]) : G14 W := by
  have e1 := h.filter (fun x => x.1 == "factotum/code.operands")
  have e2 := h.filter (fun x => x.1 == "factotum/text.names")
  have e3 := h.filter (fun x => x.1 == "internal/strconv.uint64pow10")
  have e4 := h.filter (fun x => x.1 == "strconv.ErrSyntax")
  have e5 := h.filter (fun x => x.1 == "strconv.ErrRange")
  rw [h1] at e1
  rw [h2] at e2
  rw [h3] at e3
  rw [h4] at e4
  rw [h5] at e5
  have hv : W.var? Tryz.prog "factotum/text.names" = some nmV := var_strs (ss := nmT) (rest := []) gNames gNamesT Tryz.underlying48 Tryz.underlying9 cellsSt cellsNm e2
  obtain ⟨t, fr, hrow⟩ := row_of_var gNames hv
  have hlt : 0 < W.heap.size := (Array.getElem?_eq_some_iff.1 hrow).1
  refine ⟨glob_of e1, ⟨t, fr, hrow⟩, hlt, fun i hi => ?_, Lib.tabIs_of_head (rest := []) gPow gPowT Tryz.underlying142 Tryz.underlying93 cellsU64 cellsPw e3, var_err (rest := []) gSyn gSynT Tryz.underlying74 e4, var_err (rest := []) gRan gRanT Tryz.underlying74 e5⟩
  rw [World.var?_cell gNames hv i]
  have hl : nmT.length = 20 := rfl
  unfold nmV
  rw [List.getElem?_toArray, List.getElem?_map, List.getElem?_eq_getElem (by omega), List.getD_eq_getElem?_getD, List.getElem?_eq_getElem (by omega)]
  rfl

end Go.Proofs.YthopmlgfklhagaaGreatDoor
