/- Layer 6 (package stack): what an operation takes, and which of them it pushes. Condition: the block is a stack (St). -/
import Derived.Test.YtjmbmhjhnoiclaaS6E
namespace Go.Proofs.Ytjmbmhjhnoiclaa
open Go.RowKit
set_option linter.unusedVariables false

/-- How many cells an operation takes, and which of them it pushes; z: the uppermost is 0. -/
def shapeL (op : Int) (z : Bool) : Nat × List Nat :=
  if op = 28 then (1, [0, 0]) else
  if op = 29 then (1, []) else
  if op = 30 then (2, [1, 0]) else
  if op = 31 then (2, [0, 1, 0]) else
  if op = 32 then (3, [1, 2, 0]) else
  if op = 33 then (2, [1]) else
  if op = 34 then (2, [1, 0, 1]) else
  if op = 36 then (2, [0, 1, 0, 1]) else
  if op = 37 then (2, []) else
  if op = 38 then (4, [2, 3, 0, 1]) else
  if op = 39 then (4, [0, 1, 2, 3, 0, 1]) else
  if op = 35 then (1, if z then [0] else [0, 0]) else (0, [])
def posS (ps : List Nat) : ByteArray := ⟨(ps.map fun i => UInt8.ofNat (48 + i)).toArray⟩
def topZ (L : List Int) : Bool := decide (L ≠ [] ∧ L.getLastD 0 = 0)
/-- What Do answers of a shape. -/
def EffR (t : Nat) (ps : List Nat) (w : World) (e : Ending) (w' : World) : Prop := e = .returned (.tuple #[.int .i64 (t : Int), .string (posS ps)]) ∧ Mod [] w w'
theorem shapeL_le (op : Int) (z : Bool) : (shapeL op z).1 ≤ 4 ∧ (∀ i ∈ (shapeL op z).2, i < (shapeL op z).1) ∧ (shapeL op z).2.length ≤ 6 ∧ ((shapeL op z).1 = 0 ↔ ¬ (28 ≤ op ∧ op ≤ 39)) := by
  have hc : op = 28 ∨ op = 29 ∨ op = 30 ∨ op = 31 ∨ op = 32 ∨ op = 33 ∨ op = 34 ∨ op = 35 ∨ op = 36 ∨ op = 37 ∨ op = 38 ∨ op = 39 ∨ ¬ (28 ≤ op ∧ op ≤ 39) := by omega
  rcases hc with h | h | h | h | h | h | h | h | h | h | h | h | h
  all_goals try (subst h; cases z <;> decide)
  unfold shapeL
  rw [if_neg (by omega)]
  rw [if_neg (by omega)]
  rw [if_neg (by omega)]
  rw [if_neg (by omega)]
  rw [if_neg (by omega)]
  rw [if_neg (by omega)]
  rw [if_neg (by omega)]
  rw [if_neg (by omega)]
  rw [if_neg (by omega)]
  rw [if_neg (by omega)]
  rw [if_neg (by omega)]
  rw [if_neg (by omega)]
  simp
  omega
theorem effect_28 (v : Value) (z : Bool) (w : World) : Calls Try.prog 34 #[v, .int .i64 28] w (EffR (shapeL 28 z).1 (shapeL 28 z).2 w) := by
  show Calls Try.prog 34 #[v, .int .i64 28] w (EffR 1 [0, 0] w)
  go_enter Try.func34, Try.ntmps34
  go_wp2
  go_ret2
  exact ⟨rfl, Mod.refl _ _⟩
theorem effect_29 (v : Value) (z : Bool) (w : World) : Calls Try.prog 34 #[v, .int .i64 29] w (EffR (shapeL 29 z).1 (shapeL 29 z).2 w) := by
  show Calls Try.prog 34 #[v, .int .i64 29] w (EffR 1 [] w)
  go_enter Try.func34, Try.ntmps34
  go_wp2
  go_ret2
  exact ⟨rfl, Mod.refl _ _⟩
theorem effect_30 (v : Value) (z : Bool) (w : World) : Calls Try.prog 34 #[v, .int .i64 30] w (EffR (shapeL 30 z).1 (shapeL 30 z).2 w) := by
  show Calls Try.prog 34 #[v, .int .i64 30] w (EffR 2 [1, 0] w)
  go_enter Try.func34, Try.ntmps34
  go_wp2
  go_ret2
  exact ⟨rfl, Mod.refl _ _⟩
theorem effect_31 (v : Value) (z : Bool) (w : World) : Calls Try.prog 34 #[v, .int .i64 31] w (EffR (shapeL 31 z).1 (shapeL 31 z).2 w) := by
  show Calls Try.prog 34 #[v, .int .i64 31] w (EffR 2 [0, 1, 0] w)
  go_enter Try.func34, Try.ntmps34
  go_wp2
  go_ret2
  exact ⟨rfl, Mod.refl _ _⟩
theorem effect_32 (v : Value) (z : Bool) (w : World) : Calls Try.prog 34 #[v, .int .i64 32] w (EffR (shapeL 32 z).1 (shapeL 32 z).2 w) := by
  show Calls Try.prog 34 #[v, .int .i64 32] w (EffR 3 [1, 2, 0] w)
  go_enter Try.func34, Try.ntmps34
  go_wp2
  go_ret2
  exact ⟨rfl, Mod.refl _ _⟩
theorem effect_33 (v : Value) (z : Bool) (w : World) : Calls Try.prog 34 #[v, .int .i64 33] w (EffR (shapeL 33 z).1 (shapeL 33 z).2 w) := by
  show Calls Try.prog 34 #[v, .int .i64 33] w (EffR 2 [1] w)
  go_enter Try.func34, Try.ntmps34
  go_wp2
  go_ret2
  exact ⟨rfl, Mod.refl _ _⟩
theorem effect_34 (v : Value) (z : Bool) (w : World) : Calls Try.prog 34 #[v, .int .i64 34] w (EffR (shapeL 34 z).1 (shapeL 34 z).2 w) := by
  show Calls Try.prog 34 #[v, .int .i64 34] w (EffR 2 [1, 0, 1] w)
  go_enter Try.func34, Try.ntmps34
  go_wp2
  go_ret2
  exact ⟨rfl, Mod.refl _ _⟩
theorem effect_36 (v : Value) (z : Bool) (w : World) : Calls Try.prog 34 #[v, .int .i64 36] w (EffR (shapeL 36 z).1 (shapeL 36 z).2 w) := by
  show Calls Try.prog 34 #[v, .int .i64 36] w (EffR 2 [0, 1, 0, 1] w)
  go_enter Try.func34, Try.ntmps34
  go_wp2
  go_ret2
  exact ⟨rfl, Mod.refl _ _⟩
theorem effect_37 (v : Value) (z : Bool) (w : World) : Calls Try.prog 34 #[v, .int .i64 37] w (EffR (shapeL 37 z).1 (shapeL 37 z).2 w) := by
  show Calls Try.prog 34 #[v, .int .i64 37] w (EffR 2 [] w)
  go_enter Try.func34, Try.ntmps34
  go_wp2
  go_ret2
  exact ⟨rfl, Mod.refl _ _⟩
theorem effect_38 (v : Value) (z : Bool) (w : World) : Calls Try.prog 34 #[v, .int .i64 38] w (EffR (shapeL 38 z).1 (shapeL 38 z).2 w) := by
  show Calls Try.prog 34 #[v, .int .i64 38] w (EffR 4 [2, 3, 0, 1] w)
  go_enter Try.func34, Try.ntmps34
  go_wp2
  go_ret2
  exact ⟨rfl, Mod.refl _ _⟩
theorem effect_39 (v : Value) (z : Bool) (w : World) : Calls Try.prog 34 #[v, .int .i64 39] w (EffR (shapeL 39 z).1 (shapeL 39 z).2 w) := by
  show Calls Try.prog 34 #[v, .int .i64 39] w (EffR 4 [0, 1, 2, 3, 0, 1] w)
  go_enter Try.func34, Try.ntmps34
  go_wp2
  go_ret2
  exact ⟨rfl, Mod.refl _ _⟩
theorem effect_none (v : Value) (op : Int) (h : ¬ (28 ≤ op ∧ op ≤ 39)) (z : Bool) (w : World) : Calls Try.prog 34 #[v, .int .i64 op] w (EffR (shapeL op z).1 (shapeL op z).2 w) := by
  have e : shapeL op z = (0, []) := by
    unfold shapeL
    rw [if_neg (by omega)]
    rw [if_neg (by omega)]
    rw [if_neg (by omega)]
    rw [if_neg (by omega)]
    rw [if_neg (by omega)]
    rw [if_neg (by omega)]
    rw [if_neg (by omega)]
    rw [if_neg (by omega)]
    rw [if_neg (by omega)]
    rw [if_neg (by omega)]
    rw [if_neg (by omega)]
    rw [if_neg (by omega)]
  rw [e]
  clear e
  have h28 : (op == 28) = false := by simp; omega
  have h29 : (op == 29) = false := by simp; omega
  have h30 : (op == 30) = false := by simp; omega
  have h31 : (op == 31) = false := by simp; omega
  have h32 : (op == 32) = false := by simp; omega
  have h33 : (op == 33) = false := by simp; omega
  have h34 : (op == 34) = false := by simp; omega
  have h35 : (op == 35) = false := by simp; omega
  have h36 : (op == 36) = false := by simp; omega
  have h37 : (op == 37) = false := by simp; omega
  have h38 : (op == 38) = false := by simp; omega
  have h39 : (op == 39) = false := by simp; omega
  clear h
  go_enter Try.func34, Try.ntmps34
  go_wp2
  go_ret2
  exact ⟨rfl, Mod.refl _ _⟩
theorem effect_35z {w : World} {p : Nat} {R : List Int} (h : St w p (R ++ [0])) : Calls Try.prog 34 #[Pt p, .int .i64 35] w (EffR 1 [0] w) := by
  have hd := h.depth
  have hl := h.n
  have hc := h.cell R.length (by simp)
  rw [List.getElem_concat_length rfl] at hc
  simp only [List.length_append, List.length_singleton] at hd hl
  obtain ⟨m, hm⟩ : ∃ m, m = R.length := ⟨_, rfl⟩
  rw [← hm] at hc hd hl
  rw [show ((m + 1 : Nat) : Int) = (m : Int) + 1 from rfl] at hd
  have h1 : (0 : Int) ≤ (m : Int) := by omega
  have h2 : (m : Int) < 128 := by omega
  have h3 : decide (0 < (m : Int) + 1) = true := decide_eq_true (by omega)
  have h4 : IntKind.i64.wrap ((m : Int) + 1 - 1) = (m : Int) := by rw [show (m : Int) + 1 - 1 = (m : Int) by omega]; exact IntWalk.i64_in _ (by omega)
  clear h hm
  go_enter Try.func34, Try.ntmps34
  go_wp2_with fail
  go_quiet (fail)
  go_wp2
  go_ret2
  exact ⟨rfl, (Mod.refl _ _).drewN _⟩
theorem effect_35n {w : World} {p : Nat} {R : List Int} {u : Int} (h : St w p (R ++ [u])) (hu : u ≠ 0) : Calls Try.prog 34 #[Pt p, .int .i64 35] w (EffR 1 [0, 0] w) := by
  have hd := h.depth
  have hl := h.n
  have hc := h.cell R.length (by simp)
  rw [List.getElem_concat_length rfl] at hc
  simp only [List.length_append, List.length_singleton] at hd hl
  obtain ⟨m, hm⟩ : ∃ m, m = R.length := ⟨_, rfl⟩
  rw [← hm] at hc hd hl
  rw [show ((m + 1 : Nat) : Int) = (m : Int) + 1 from rfl] at hd
  have h1 : (0 : Int) ≤ (m : Int) := by omega
  have h2 : (m : Int) < 128 := by omega
  have h3 : decide (0 < (m : Int) + 1) = true := decide_eq_true (by omega)
  have h4 : IntKind.i64.wrap ((m : Int) + 1 - 1) = (m : Int) := by rw [show (m : Int) + 1 - 1 = (m : Int) by omega]; exact IntWalk.i64_in _ (by omega)
  have h5 : (u == 0) = false := by simpa using hu
  clear h hm hu
  go_enter Try.func34, Try.ntmps34
  go_wp2_with fail
  go_quiet (fail)
  go_wp2
  go_ret2
  exact ⟨rfl, (Mod.refl _ _).drewN _⟩
theorem effect_35e {w : World} {p : Nat} (h : St w p []) : Calls Try.prog 34 #[Pt p, .int .i64 35] w (EffR 1 [0, 0] w) := by
  have hd : w.cell? ⟨p, 128, none⟩ = some (.int .i64 0) := h.depth
  clear h
  go_enter Try.func34, Try.ntmps34
  go_wp2_with fail
  go_quiet (fail)
  go_wp2
  go_ret2
  exact ⟨rfl, (Mod.refl _ _).drewN _⟩
theorem effect_calls {w : World} {p : Nat} {L : List Int} (h : St w p L) (op : Int) : Calls Try.prog 34 #[Pt p, .int .i64 op] w (EffR (shapeL op (topZ L)).1 (shapeL op (topZ L)).2 w) := by
  have hc : op = 28 ∨ op = 29 ∨ op = 30 ∨ op = 31 ∨ op = 32 ∨ op = 33 ∨ op = 34 ∨ op = 36 ∨ op = 37 ∨ op = 38 ∨ op = 39 ∨ op = 35 ∨ ¬ (28 ≤ op ∧ op ≤ 39) := by omega
  rcases hc with h1 | h1 | h1 | h1 | h1 | h1 | h1 | h1 | h1 | h1 | h1 | h1 | h1
  · subst h1; exact effect_28 _ _ w
  · subst h1; exact effect_29 _ _ w
  · subst h1; exact effect_30 _ _ w
  · subst h1; exact effect_31 _ _ w
  · subst h1; exact effect_32 _ _ w
  · subst h1; exact effect_33 _ _ w
  · subst h1; exact effect_34 _ _ w
  · subst h1; exact effect_36 _ _ w
  · subst h1; exact effect_37 _ _ w
  · subst h1; exact effect_38 _ _ w
  · subst h1; exact effect_39 _ _ w
  · subst h1
    by_cases h0 : L = []
    · subst h0
      exact effect_35e h
    · obtain ⟨R, u, rfl⟩ : ∃ R u, L = R ++ [u] := ⟨L.dropLast, L.getLast h0, (List.dropLast_concat_getLast h0).symm⟩
      by_cases hu : u = 0
      · subst hu
        rw [show topZ (R ++ [0]) = true by unfold topZ; simp [List.getLastD_eq_getLast?]]
        exact effect_35z h
      · rw [show topZ (R ++ [u]) = false by unfold topZ; simp [List.getLastD_eq_getLast?, hu]]
        exact effect_35n h hu
  · exact effect_none _ op h1 _ w
end Go.Proofs.Ytjmbmhjhnoiclaa
