/- Layer 10: what the laws' frames ask: the table as the listed variable reads, a definition that came in, a world that bears them, the end. No condition. -/
import Derived.Test.YtheealjhmndbgaaDoorRows
import Derived.Test.YtheealjhmndbgaaDoorIK
import Derived.WalkKit
import Derived.ProofKit
import Derived.OpenShut
import Derived.ChangeMaps5
import Derived.LaidMore
import Derived.LaidLaws
import Derived.Lib.LaidTab
import Derived.Lib.SmallJoins
import Derived.Shelf.Vars
import Derived.Deep.Slices
namespace Go.Proofs.YtheealjhmndbgaaDoor
open Go.ChangeShapes Go.WideShapes Go.RowKit Go.ChangeAt Go.Deep
set_option linter.unusedVariables false

set_option maxRecDepth 100000 in
theorem laid_at (i : Nat) (h : i < 16) {H : Type} (L : List (DataW H)) (hL : (Rows.laid_rhyton_ins_operations : DataW H) = .agg L) : L[i]? = some (.agg [.lit (.string (nameX i)), .lit (.int .i64 (kindX i : Int))]) := by
  unfold Rows.laid_rhyton_ins_operations at hL
  injection hL with hL
  subst hL
  have h2 : i ∈ List.range 16 := List.mem_range.2 h
  simp only [List.range, List.range.loop, List.mem_cons, List.not_mem_nil, or_false] at h2
  rcases h2 with rfl | rfl | rfl | rfl | rfl | rfl | rfl | rfl | rfl | rfl | rfl | rfl | rfl | rfl | rfl | rfl <;> rfl
theorem Tryd.cellsOper : Tryd.prog.cellsOf 64 = 2 := by kernel_rfl
theorem Tryd.cellsStrI : Tryd.prog.cellsOf 9 = 1 := by kernel_rfl
theorem Tryd.cellsIntI : Tryd.prog.cellsOf 3 = 1 := by kernel_rfl
theorem Tryd.cellsCellI : Tryd.prog.cellsOf 34 = 1 := by kernel_rfl
theorem Tryd.cellsByteI : Tryd.prog.cellsOf 5 = 1 := by kernel_rfl
theorem Tryd.cellsInsI : Tryd.prog.cellsOf 36 = 3 := by kernel_rfl
theorem Tryd.cellsDefI : Tryd.prog.cellsOf 24 = 1 := by kernel_rfl
theorem Tryd.cellsInssI : Tryd.prog.cellsOf 22 = 1 := by kernel_rfl
set_option maxRecDepth 100000 in
theorem oper_open {H : Type} {enc : TypeId × Value → H} {W : World} {base n : Nat} {sp : Nat → Bool} {held : Bool} {cs : List Value} {nm : List UInt8} {k : Int} {q : List MemPlace} (h : DataW.trod enc Tryd.prog W base sp held n 64 cs = some (.agg [.lit (.string nm), .lit (.int .i64 k)], q)) :
    cs = [.string ⟨nm.toArray⟩, .int .i64 k] := by
  obtain ⟨xs, n', _, hx, hlen, hxl, hf⟩ := DataW.trod_struct Tryd.underlying64 h
  rw [Tryd.cellsOper] at hlen
  match cs, hlen with
  | [c0, c1], _ =>
    match xs, hxl with
    | [y0, y1], _ =>
      have e0 : DataW.trod enc Tryd.prog W base sp held n' 9 (([c0, c1].drop 0).take (Tryd.prog.cellsOf 9)) = some y0 := hf 0 _ rfl
      have e1 : DataW.trod enc Tryd.prog W base sp held n' 3 (([c0, c1].drop 1).take (Tryd.prog.cellsOf 3)) = some y1 := hf 1 _ rfl
      rw [Tryd.cellsStrI] at e0
      rw [Tryd.cellsIntI] at e1
      obtain ⟨s, s1, s2, _⟩ := DataW.trod_string Tryd.underlying9 e0
      obtain ⟨y, y1', y2, _⟩ := DataW.trod_int Tryd.underlying3 e1
      simp at s1 y1'
      subst s1 y1' s2 y2
      simp at hx
      obtain ⟨⟨h1, h2⟩, _⟩ := hx
      subst h1 h2
      simp
set_option maxRecDepth 100000 in
theorem good_of_laid {W : World} (h : laidMetH Tryd.prog [("rhyton/ins.operations", Rows.laid_rhyton_ins_operations)] W) : Good W := by
  have h' : laidMet Tryd.prog [("rhyton/ins.operations", Rows.laid_rhyton_ins_operations)] W := h
  obtain ⟨ps, ⟨g', t', cs, fuel, p, q, hg', ht', hvar, hd, _, _⟩, _⟩ := h'
  obtain rfl := Option.some.inj ((show Tryd.prog.globalNamed "rhyton/ins.operations" = some 0 by kernel_rfl).symm.trans hg')
  obtain rfl := Option.some.inj ((show (Tryd.prog.globals[0]?).map (·.type) = some 65 by kernel_rfl).symm.trans ht')
  obtain ⟨xs, m, _, hx, hlen, hxl, hf⟩ := DataW.trod_array Tryd.underlying65 hd
  have hx1 : (Rows.laid_rhyton_ins_operations : DataW Unit) = .agg (xs.map (·.1)) := congrArg Prod.fst hx
  have key : ∀ i, i < 16 → cs.toList[i * 2]? = some (.string ⟨(nameX i).toArray⟩) ∧ cs.toList[i * 2 + 1]? = some (.int .i64 (kindX i : Int)) := fun i hi => by
    have h1 := hf i hi
    have h2 := laid_at i hi _ hx1
    rw [List.getElem?_map] at h2
    obtain ⟨y, hy, hy2⟩ := Option.map_eq_some_iff.1 h2
    rw [hy, Tryd.cellsOper] at h1
    obtain ⟨y1, y2⟩ := y
    simp only at hy2
    subst hy2
    have h3 := oper_open h1
    have g0 := congrArg (·[0]?) h3
    have g1 := congrArg (·[1]?) h3
    simp only [List.getElem?_take, List.getElem?_drop] at g0 g1
    simp at g0 g1
    exact ⟨by simpa using g0, by simpa using g1⟩
  have hv : ∀ i, W.cell? ⟨0, i, none⟩ = cs[i]? := fun i => World.var?_cell (show Tryd.prog.globalNamed "rhyton/ins.operations" = some 0 by kernel_rfl) hvar i
  refine ⟨?_, fun op ho => ?_, fun op ho => ?_⟩
  · have h0 := (key 0 (by decide)).1
    have : W.cell? ⟨0, 0, none⟩ = some (.string ⟨(nameX 0).toArray⟩) := by rw [hv]; simpa using h0
    exact World.block_lt_of_cell? _ _ this
  · rw [hv]; simpa using (key op ho).1
  · rw [hv]; simpa using (key op ho).2
theorem door_met1 (os : Os) (args : Array Value) : laidMetH Tryd.prog [("rhyton/ins.operations", Rows.laid_rhyton_ins_operations)] ((World.doorLaid Tryd.prog 62 os).forCall (fun _ _ => 0) ⟨#[], args, []⟩).memory :=
  laidMetH_of_parts3 (fuel := 8) (laidMet_of_run' 8 (by kernel_rfl) (by kernel_rfl)) (by kernel_rfl) (by kernel_rfl)
theorem door_shaped (os : Os) (args : Array Value) : ((World.doorLaid Tryd.prog 62 os).forCall (fun _ _ => 0) ⟨#[], args, []⟩).Shaped Tryd.prog := World.shaped_of_RefB (by kernel_rfl) (by kernel_rfl)
end Go.Proofs.YtheealjhmndbgaaDoor
