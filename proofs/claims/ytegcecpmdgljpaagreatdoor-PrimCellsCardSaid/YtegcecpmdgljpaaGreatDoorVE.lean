/- Layer 13: PrimBelow's walk. Condition: the arguments are slices of cells and a number; the listed variables hold what they hold. -/
import Derived.Test.YtegcecpmdgljpaaGreatDoorVD
namespace Go.Proofs.YtegcecpmdgljpaaGreatDoor
open Go.RowKit
set_option linter.unusedVariables false

def fromA (A : Option Addr) (a cap : Nat) : Option Addr := if cap = a then A else A.map fun x => x.add a
theorem Sl.drop {w : World} {A : Option Addr} {X : List Int} (h : Sl w A X) (a cap : Nat) (hc : X.length ≤ cap) : Sl w (fromA A a cap) (X.drop a) := fun j hj => by
  have hj' : a + j < X.length := by simp at hj; omega
  obtain ⟨b, off, rfl, hx⟩ := h (a + j) hj'
  refine ⟨b, off + a, ?_, ?_⟩
  · unfold fromA
    rw [if_neg (by omega)]
    show some ((⟨b, off, none⟩ : Addr).add a) = _
    congr 1
    unfold Addr.add
    split <;> simp_all
  · rw [Nat.add_assoc, hx]
    simp

theorem same_self {w : World} {A B : Option Addr} {n m c d : Nat} {X : List Int} (hs : Sl w A X) (ht : Sl w B X) (hn : n = X.length) (hm : m = X.length) (hb : X.length ≤ 9223372036854775807) :
    Calls Tryz.prog 19 #[.slice A n c, .slice B m d] w fun e w' => e = .returned (.bool true) ∧ Mod [] w w' :=
  (same_calls hs ht hn hm hb hb).mono fun e w' ⟨h, k⟩ => ⟨by rw [h, decide_eq_true rfl], k⟩
end Go.Proofs.YtegcecpmdgljpaaGreatDoor
