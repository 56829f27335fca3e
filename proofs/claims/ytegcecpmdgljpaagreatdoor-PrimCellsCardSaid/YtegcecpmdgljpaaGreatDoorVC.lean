/- Layer 13: rows that came in; PrimErrors's walk. Condition: the arguments are a slice of cells and a number; the listed variables hold what they hold. -/
import Derived.Test.YtegcecpmdgljpaaGreatDoorVB
namespace Go.Proofs.YtegcecpmdgljpaaGreatDoor
open Go.RowKit
set_option linter.unusedVariables false

/-- The row of a slice that came in, and its head of M cells. -/
structure Came13 (w : World) (A : Option Addr) (len cap M : Nat) (X : List Int) (k : Nat) : Prop where
  s : Sl w A X
  n : X.length = k
  e : k = min len M
  i : ∀ x ∈ X, I64 x
  c : k ≤ cap
  l : len ≤ cap
  m : cap ≤ 9223372036854775807
  a : A = none → cap = 0
  h : ∀ W, (Instr.sliceAt 22 (.slice A len cap) none (some (.int .i64 (k : Int))) none).run Tryz.prog W = .ok (.slice A k cap) W
theorem Tryz.sizeCellIn : ∀ w, (Go.sizeOf 37).run Tryz.prog w = .ok 1 w := fun w => by kernel_rfl
theorem cells_in (W : World) (A : Option Addr) (len cap k : Nat) (hk : k ≤ cap) : (Instr.sliceAt 22 (.slice A len cap) none (some (.int .i64 (k : Int))) none).run Tryz.prog W = .ok (.slice A k cap) W :=
  upto_in W _ _ Tryz.underlying22 Tryz.sizeCellIn A len cap k hk
theorem RowIn.came {w : World} {A : Option Addr} {len cap : Nat} {zs : List Int} (R : RowIn .i64 w A len cap zs) (M : Nat) : ∃ X k, Came13 w A len cap M X k := by
  rcases R with ⟨rfl, rfl, rfl, rfl⟩ | ⟨x, rfl, h1, h2, h3, h4, h5⟩
  · exact ⟨[], 0, Sl.nil _ _, rfl, by simp, by simp, Nat.le_refl _, Nat.le_refl _, by omega, fun _ => rfl, fun W => cells_in W _ _ _ 0 (Nat.le_refl _)⟩
  · refine ⟨zs.take (min len M), min len M, fun j hj => ?_, by simp; omega, rfl, fun y hy => i64_of_wf (h5 y (List.mem_of_mem_take hy)), by omega, h1, by unfold maxLen at h2; omega, by simp, fun W => cells_in W _ _ _ _ (by omega)⟩
    have hj' : j < zs.length := by simp at hj; omega
    have hc := h4 j hj'
    have e : (zs.take (min len M))[j] = zs.getD j 0 := by simp [List.getD, List.getElem?_eq_getElem hj']
    rw [e]
    have hsp : x.spot = none := by
      have h0 := h4 0 (by omega)
      rw [add_zero_in] at h0
      exact World.cell?_spot h0
    obtain ⟨b, o, sp⟩ := x
    cases sp with
    | none =>
      refine ⟨b, o, rfl, ?_⟩
      have : (⟨b, o, none⟩ : Addr).add j = ⟨b, o + j, none⟩ := by unfold Addr.add; split <;> simp_all
      rw [← this]
      exact hc
    | some s => simp at hsp
theorem putL_nil (X : List Int) (h : X.length ≤ 128) : putL X [] = (0, X) := by rw [putL_ok (by simpa using h)]; rfl
end Go.Proofs.YtegcecpmdgljpaaGreatDoor
