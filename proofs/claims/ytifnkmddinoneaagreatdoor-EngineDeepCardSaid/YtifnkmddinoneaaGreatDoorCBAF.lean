/- Layer 15: kit of its tied laws: what the four listed variables hold, as facts on cells; a world that bears them; the post out of 'what was there has not changed'. No condition. -/
import Derived.Test.YtifnkmddinoneaaGreatDoorRows
import Derived.WalkKit
import Derived.ProofKit
import Derived.OpenShut
import Derived.ChangeMaps5
import Derived.LaidMore
import Derived.LaidLaws
import Derived.Stop.LaidErr
import Derived.Lib.LaidTab
import Derived.Lib.SmallJoins
import Derived.Shelf.Vars
import Derived.Deep.Slices
import Derived.Test.YtifnkmddinoneaaGreatDoorCBAC
import Derived.Test.YtifnkmddinoneaaGreatDoorCBAE
set_option maxRecDepth 100000
namespace Go.Proofs.YtifnkmddinoneaaGreatDoor
open Go.ChangeShapes Go.WideShapes Go.RowKit Go.ChangeAt Go.Deep
set_option linter.unusedVariables false
section
variable {H : Type} {enc : TypeId × Value → H} {P : Program}
end

def tab32 : List Int := [0, 1, 28, 2, 29, 14, 24, 3, 30, 22, 20, 15, 25, 17, 4, 8, 31, 27, 13, 23, 21, 19, 16, 7, 26, 12, 18, 6, 11, 5, 10, 9]
def laid4 : List (String × DataW Unit) := [("math/bits.deBruijn32tab", Lib.tabData .u8 tab32), ("math/bits.deBruijn64tab", Lib.tabData .u8 (Lib.deBruijn64tab.map Int.ofNat)), ("internal/strconv.uint64pow10", Lib.tabData .u64 Lib.pow10Tab), ("rhyton/ins.operations", Rows.laid_rhyton_ins_operations)]
theorem laid4_is : [("math/bits.deBruijn32tab", (Rows.laid_math_bits_deBruijn32tab : DataW Unit)), ("math/bits.deBruijn64tab", Rows.laid_math_bits_deBruijn64tab), ("internal/strconv.uint64pow10", Rows.laid_internal_strconv_uint64pow10), ("rhyton/ins.operations", Rows.laid_rhyton_ins_operations)] = laid4 := by rfl
theorem good_of_three {W : World} {r : List (String × DataW Unit)} (h : laidMet Tryz.prog (("math/bits.deBruijn64tab", Lib.tabData .u8 (Lib.deBruijn64tab.map Int.ofNat)) :: ("internal/strconv.uint64pow10", Lib.tabData .u64 Lib.pow10Tab) :: r) W) : Good W := by
  have b := Lib.tabIs_of_head (P := Tryz.prog) (g := 4) (t := 300) (e := 5) (n := 64) (by kernel_rfl) (by kernel_rfl) Tryz.underlying300 Tryz.underlying5 (by kernel_rfl) (by kernel_rfl) h
  have p := Lib.tabIs_of_head (P := Tryz.prog) (g := 5) (t := 319) (e := 242) (n := 20) (by kernel_rfl) (by kernel_rfl) Tryz.underlying319 Tryz.underlying242 (by kernel_rfl) (by kernel_rfl) h.tail
  refine ⟨?_, p, b⟩
  have hv : W.var? Tryz.prog "internal/strconv.uint64pow10" = some (Lib.pow10Tab.map fun z => Value.int .u64 z).toArray := p
  unfold World.var? at hv
  rw [show Tryz.prog.globalNamed "internal/strconv.uint64pow10" = some 5 by kernel_rfl] at hv
  apply Nat.succ_le_of_lt
  apply Nat.lt_of_not_le
  intro hs
  simp only [Option.bind_some] at hv
  rw [Array.getElem?_eq_none hs] at hv
  cases hv
set_option maxRecDepth 100000 in
theorem laid_at (i : Nat) (h : i < 16) {H : Type} (L : List (DataW H)) (hL : (Rows.laid_rhyton_ins_operations : DataW H) = .agg L) : L[i]? = some (.agg [.lit (.string (L10.nameX i)), .lit (.int .i64 (L10.kindX i : Int))]) := by
  unfold Rows.laid_rhyton_ins_operations at hL
  injection hL with hL
  subst hL
  have h2 : i ∈ List.range 16 := List.mem_range.2 h
  simp only [List.range, List.range.loop, List.mem_cons, List.not_mem_nil, or_false] at h2
  rcases h2 with rfl | rfl | rfl | rfl | rfl | rfl | rfl | rfl | rfl | rfl | rfl | rfl | rfl | rfl | rfl | rfl <;> rfl
theorem Tryz.cellsOper : Tryz.prog.cellsOf 167 = 2 := by kernel_rfl
theorem Tryz.cellsStrI : Tryz.prog.cellsOf 9 = 1 := by kernel_rfl
theorem Tryz.cellsIntI : Tryz.prog.cellsOf 3 = 1 := by kernel_rfl
set_option maxRecDepth 100000 in
theorem oper_open {H : Type} {enc : TypeId × Value → H} {W : World} {base n : Nat} {sp : Nat → Bool} {held : Bool} {cs : List Value} {nm : List UInt8} {k : Int} {q : List MemPlace} (h : DataW.trod enc Tryz.prog W base sp held n 167 cs = some (.agg [.lit (.string nm), .lit (.int .i64 k)], q)) :
    cs = [.string ⟨nm.toArray⟩, .int .i64 k] := by
  obtain ⟨xs, n', _, hx, hlen, hxl, hf⟩ := DataW.trod_struct Tryz.underlying167 h
  rw [Tryz.cellsOper] at hlen
  match cs, hlen with
  | [c0, c1], _ =>
    match xs, hxl with
    | [y0, y1], _ =>
      have e0 : DataW.trod enc Tryz.prog W base sp held n' 9 (([c0, c1].drop 0).take (Tryz.prog.cellsOf 9)) = some y0 := hf 0 _ rfl
      have e1 : DataW.trod enc Tryz.prog W base sp held n' 3 (([c0, c1].drop 1).take (Tryz.prog.cellsOf 3)) = some y1 := hf 1 _ rfl
      rw [Tryz.cellsStrI] at e0
      rw [Tryz.cellsIntI] at e1
      obtain ⟨s, s1, s2, _⟩ := DataW.trod_string Tryz.underlying9 e0
      obtain ⟨y, y1', y2, _⟩ := DataW.trod_int Tryz.underlying3 e1
      simp at s1 y1'
      subst s1 y1' s2 y2
      simp at hx
      obtain ⟨⟨h1, h2⟩, _⟩ := hx
      subst h1 h2
      simp
set_option maxRecDepth 100000 in
theorem good10_of {W : World} (h' : laidMet Tryz.prog [("rhyton/ins.operations", Rows.laid_rhyton_ins_operations)] W) : L10.Good W := by
  obtain ⟨ps, ⟨g', t', cs, fuel, p, q, hg', ht', hvar, hd, _, _⟩, _⟩ := h'
  obtain rfl := Option.some.inj ((show Tryz.prog.globalNamed "rhyton/ins.operations" = some 0 by kernel_rfl).symm.trans hg')
  obtain rfl := Option.some.inj ((show (Tryz.prog.globals[0]?).map (·.type) = some 168 by kernel_rfl).symm.trans ht')
  obtain ⟨xs, m, _, hx, hlen, hxl, hf⟩ := DataW.trod_array Tryz.underlying168 hd
  have hx1 : (Rows.laid_rhyton_ins_operations : DataW Unit) = .agg (xs.map (·.1)) := congrArg Prod.fst hx
  have key : ∀ i, i < 16 → cs.toList[i * 2]? = some (.string ⟨(L10.nameX i).toArray⟩) ∧ cs.toList[i * 2 + 1]? = some (.int .i64 (L10.kindX i : Int)) := fun i hi => by
    have h1 := hf i hi
    have h2 := laid_at i hi _ hx1
    rw [List.getElem?_map] at h2
    obtain ⟨y, hy, hy2⟩ := Option.map_eq_some_iff.1 h2
    rw [hy, Tryz.cellsOper] at h1
    obtain ⟨y1, y2⟩ := y
    simp only at hy2
    subst hy2
    have h3 := oper_open h1
    have g0 := congrArg (·[0]?) h3
    have g1 := congrArg (·[1]?) h3
    simp only [List.getElem?_take, List.getElem?_drop] at g0 g1
    simp at g0 g1
    exact ⟨by simpa using g0, by simpa using g1⟩
  have hv : ∀ i, W.cell? ⟨0, i, none⟩ = cs[i]? := fun i => World.var?_cell (show Tryz.prog.globalNamed "rhyton/ins.operations" = some 0 by kernel_rfl) hvar i
  refine ⟨?_, fun op ho => ?_, fun op ho => ?_⟩
  · have h0 := (key 0 (by decide)).1
    have : W.cell? ⟨0, 0, none⟩ = some (.string ⟨(L10.nameX 0).toArray⟩) := by rw [hv]; simpa using h0
    exact World.block_lt_of_cell? _ _ this
  · rw [hv]; simpa using (key op ho).1
  · rw [hv]; simpa using (key op ho).2
theorem good_of_laid {W : World} (h : laidMetH Tryz.prog [("math/bits.deBruijn32tab", Rows.laid_math_bits_deBruijn32tab), ("math/bits.deBruijn64tab", Rows.laid_math_bits_deBruijn64tab), ("internal/strconv.uint64pow10", Rows.laid_internal_strconv_uint64pow10), ("rhyton/ins.operations", Rows.laid_rhyton_ins_operations)] W) : Good W ∧ L10.Good W := by
  rw [laid4_is] at h
  have h' : laidMet Tryz.prog laid4 W := h
  exact ⟨good_of_three h'.tail, good10_of h'.tail.tail.tail⟩
theorem door_met4 (os : Os) (args : Array Value) : laidMetH Tryz.prog [("math/bits.deBruijn32tab", Rows.laid_math_bits_deBruijn32tab), ("math/bits.deBruijn64tab", Rows.laid_math_bits_deBruijn64tab), ("internal/strconv.uint64pow10", Rows.laid_internal_strconv_uint64pow10), ("rhyton/ins.operations", Rows.laid_rhyton_ins_operations)] ((World.doorLaid Tryz.prog 65 os).forCall (fun _ _ => 0) ⟨#[], args, []⟩).memory :=
  laidMetH_of_parts3 (fuel := 8) (laidMet_of_run' 8 (by kernel_rfl) (by kernel_rfl)) (by kernel_rfl) (by kernel_rfl)
theorem door_shaped (os : Os) (args : Array Value) : ((World.doorLaid Tryz.prog 65 os).forCall (fun _ _ => 0) ⟨#[], args, []⟩).Shaped Tryz.prog := World.shaped_of_RefB (by kernel_rfl) (by kernel_rfl)
end Go.Proofs.YtifnkmddinoneaaGreatDoor
