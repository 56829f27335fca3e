/- The document's answers for two real numbers: below, the lesser one, sums. Condition: the parts are of the format. -/
import Derived.Test.YtegcecpmdgljpaaGreatDoorWD
import Derived.Test.YtegcecpmdgljpaaGreatDoorMGY
namespace Go.Proofs.YtegcecpmdgljpaaGreatDoor
open Go.RowKit
set_option linter.unusedVariables false
open Ieee (double)

abbrev prt (k : Int) (s : Bool) (m : Nat) (e : Int) : Value := .agg #[.int .i64 k, .bool s, .int .u64 (m : Int), .int .i64 e]
def belowP (z s t : Bool) (f g : Int) : Bool := if z then false else if s != t then s else if s then decide (g < f) else decide (f < g)
theorem ret_bool {a b : Bool} (h : a = b) : Ending.returned (.bool a) = .returned (.bool b) := by rw [h]
set_option maxHeartbeats 4000000 in
set_option maxRecDepth 100000 in
theorem rbelow4 (ka kb : Int) (ha : ka = 1 ∨ ka = 2) (hb : kb = 1 ∨ kb = 2) (s t : Bool) (m n : Nat) (e j f g : Int) (z : Bool) (hz : decide (ka = 2 ∧ kb = 2 ∧ m = 0 ∧ n = 0) = z) (w : World) :
    Calls Tryz.prog 59 #[prt ka s m e, prt kb t n j, .int .i64 f, .int .i64 g] w fun e w' => e = .returned (.bool (belowP z s t f g)) ∧ Ext w w' := by
  have X : ∀ a b : Array Value, Ext w ((w.alloc (.cells a 111)).alloc (.cells b 111)) := fun a b => ((Ext.refl w).cells _ _).cells _ _
  have HX := Lib.hid X
  clear X
  cases z with
  | true =>
    obtain ⟨rfl, rfl, rfl, rfl⟩ := of_decide_eq_true hz
    clear hz ha hb
    go_enter Tryz.func59, Tryz.ntmps59
    go_wp2
    go_ret
    exact ⟨rfl, HX.out _ _⟩
  | false =>
    have hz := of_decide_eq_false hz
    have nz : ∀ x : Int, x ≠ 0 → (x == 0) = false := fun x h => beq_eq_false_iff_ne.2 h
    have ez : ∀ x : Int, x = 0 → (x == 0) = true := fun x h => beq_iff_eq.2 h
    have key : (ka = 1 ∧ kb = 1) ∨ (ka = 1 ∧ kb = 2) ∨ (ka = 2 ∧ kb = 1) ∨ (ka = 2 ∧ kb = 2 ∧ ((m : Int) == 0) = false) ∨ (ka = 2 ∧ kb = 2 ∧ ((m : Int) == 0) = true ∧ ((n : Int) == 0) = false) := by
      by_cases hm : (m : Int) = 0
      · have := ez _ hm
        by_cases hn : (n : Int) = 0
        · omega
        · have := nz _ hn
          rcases ha with rfl | rfl <;> rcases hb with rfl | rfl <;> simp_all
      · have := nz _ hm
        rcases ha with rfl | rfl <;> rcases hb with rfl | rfl <;> simp_all
    have sg : (s = false ∧ t = true) ∨ (s = true ∧ t = false) ∨ (s = false ∧ t = false ∧ f < g) ∨ (s = false ∧ t = false ∧ ¬ f < g) ∨ (s = true ∧ t = true ∧ g < f) ∨ (s = true ∧ t = true ∧ ¬ g < f) := by
      cases s <;> cases t <;> simp <;> omega
    clear hz ha hb nz ez
    rcases sg with ⟨rfl, rfl⟩ | ⟨rfl, rfl⟩ | ⟨rfl, rfl, h⟩ | ⟨rfl, rfl, h⟩ | ⟨rfl, rfl, h⟩ | ⟨rfl, rfl, h⟩ <;> rcases key with ⟨rfl, rfl⟩ | ⟨rfl, rfl⟩ | ⟨rfl, rfl⟩ | ⟨rfl, rfl, hm⟩ | ⟨rfl, rfl, hm, hn⟩ <;>
      (go_enter Tryz.func59, Tryz.ntmps59; go_wp2; go_ret; exact ⟨ret_bool (by first | rfl | (simp [belowP]; done) | (simp [belowP]; omega)), HX.out _ _⟩)
end Go.Proofs.YtegcecpmdgljpaaGreatDoor
