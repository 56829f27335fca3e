/- Layer 6: what operations do to lists. Plain lists; no condition. -/
import Derived.Test.YtjmbmhjhnoiclaaS6O
namespace Go.Proofs.Ytjmbmhjhnoiclaa
open Go.RowKit
set_option linter.unusedVariables false

theorem chosen_some (A : List Int) (x : Int) (B : List Int) : chosenAt (A ++ x :: (B ++ [(B.length : Int)])) = some (A, x, B) := by
  rcases chosen_cases (A ++ x :: (B ++ [(B.length : Int)])) with ⟨_, h | ⟨R, u, h, hu⟩⟩ | ⟨A', x', B', h, e⟩
  · simp at h
  · refine absurd ?_ hu
    have h1 : (A ++ x :: B) ++ [(B.length : Int)] = R ++ [u] := by rw [← h]; simp
    have h2 := List.append_inj' h1 rfl
    injection h2.2 with h3
    rw [← h2.1, ← h3]
    simp
    omega
  · have h1 : (A ++ x :: B) ++ [(B.length : Int)] = (A' ++ x' :: B') ++ [(B'.length : Int)] := by simpa using h
    have h2 := List.append_inj' h1 rfl
    injection h2.2 with h3
    have h4 : B.length = B'.length := by omega
    have h5 := List.append_inj' h2.1 (by simp [h4])
    injection h5.2 with h6 h7
    rw [e, h5.1, h6, h7]
theorem pickL_err (L : List Int) : (pickL L).1 = 0 ∨ (pickL L).1 = -4 := by unfold pickL; split <;> simp
theorem rollL_err (L : List Int) : (rollL L).1 = 0 ∨ (rollL L).1 = -4 := by unfold rollL; split <;> simp
theorem pickL_some (A : List Int) (x : Int) (B : List Int) : pickL (A ++ x :: (B ++ [(B.length : Int)])) = (0, A ++ x :: (B ++ [x])) := by unfold pickL; rw [chosen_some]
theorem rollL_some (A : List Int) (x : Int) (B : List Int) : rollL (A ++ x :: (B ++ [(B.length : Int)])) = (0, A ++ (B ++ [x])) := by unfold rollL; rw [chosen_some]
theorem pickL_below (X Y : List Int) (h : (pickL Y).1 ≠ -4) : pickL (X ++ Y) = ((pickL Y).1, X ++ (pickL Y).2) := by
  rcases chosen_cases Y with ⟨e, _⟩ | ⟨A, x, B, rfl, e⟩
  · unfold pickL at h
    rw [e] at h
    exact absurd rfl h
  · rw [pickL_some, ← List.append_assoc, pickL_some, List.append_assoc]
theorem rollL_below (X Y : List Int) (h : (rollL Y).1 ≠ -4) : rollL (X ++ Y) = ((rollL Y).1, X ++ (rollL Y).2) := by
  rcases chosen_cases Y with ⟨e, _⟩ | ⟨A, x, B, rfl, e⟩
  · unfold rollL at h
    rw [e] at h
    exact absurd rfl h
  · rw [rollL_some, ← List.append_assoc, rollL_some, List.append_assoc]
theorem replL_err (t : Nat) (ps : List Nat) (L : List Int) (hp : ps.length ≤ 6) (hl : L.length ≤ 120) : (replL t ps L).1 = 0 ∨ (replL t ps L).1 = -4 := by
  unfold replL
  split
  · simp
  · rw [if_neg (by omega)]
    simp
theorem replL_below (t : Nat) (ps : List Nat) (X Y : List Int) (hp : ps.length ≤ 6) (hx : X.length ≤ 60) (hy : Y.length ≤ 60) (h : (replL t ps Y).1 ≠ -4) : replL t ps (X ++ Y) = ((replL t ps Y).1, X ++ (replL t ps Y).2) := by
  unfold replL at h ⊢
  by_cases ht : Y.length < t
  · rw [if_pos ht] at h
    exact absurd rfl h
  · have hl : (X ++ Y).length = X.length + Y.length := by simp
    rw [if_neg ht, if_neg (show ¬ (X ++ Y).length < t by omega), if_neg (show ¬ 128 < (X ++ Y).length - t + ps.length by omega), if_neg (show ¬ 128 < Y.length - t + ps.length by omega)]
    have e : (X ++ Y).length - t = X.length + (Y.length - t) := by simp; omega
    rw [e, List.take_length_add_append, List.drop_length_add_append, List.append_assoc]
theorem shape_z (op : Int) (h : op ≠ 35) (z z' : Bool) : shapeL op z = shapeL op z' := by
  unfold shapeL
  repeat (split; rfl)
  rw [if_neg h, if_neg h]
theorem topZ_app (X Y : List Int) (h : Y ≠ []) : topZ (X ++ Y) = topZ Y := by
  unfold topZ
  simp [List.getLastD_eq_getLast?, List.getLast?_append, h]
  obtain ⟨R, u, rfl⟩ : ∃ R u, Y = R ++ [u] := ⟨Y.dropLast, Y.getLast h, (List.dropLast_concat_getLast h).symm⟩
  simp
theorem doL_err (op : Int) (h42 : op ≠ 42) (L : List Int) (hl : L.length ≤ 120) : (28 ≤ op ∧ op ≤ 42 → (doL op L).1 = 0 ∨ (doL op L).1 = -4) ∧ (¬ (28 ≤ op ∧ op ≤ 42) → doL op L = (1, L)) := by
  unfold doL
  obtain ⟨l1, l2, l3, l4⟩ := shapeL_le op (topZ L)
  refine ⟨fun h => ?_, fun h => ?_⟩
  · by_cases h40 : op = 40
    · rw [if_pos h40]; exact pickL_err L
    rw [if_neg h40]
    by_cases h41 : op = 41
    · rw [if_pos h41]; exact rollL_err L
    rw [if_neg h41, if_neg h42, if_neg (fun e => l4.1 e (by omega))]
    exact replL_err _ _ L l3 hl
  · rw [if_neg (by omega), if_neg (by omega), if_neg h42, if_pos (l4.2 (by omega))]
theorem doL_below (op : Int) (h42 : op ≠ 42) (X Y : List Int) (hx : X.length ≤ 60) (hy : Y.length ≤ 60) (h : (doL op Y).1 ≠ -4) : doL op (X ++ Y) = ((doL op Y).1, X ++ (doL op Y).2) := by
  by_cases hr : 28 ≤ op ∧ op ≤ 42
  · unfold doL at h ⊢
    by_cases h40 : op = 40
    · rw [if_pos h40] at h ⊢; rw [if_pos h40]; exact pickL_below X Y h
    rw [if_neg h40] at h ⊢
    rw [if_neg h40]
    by_cases h41 : op = 41
    · rw [if_pos h41] at h ⊢; rw [if_pos h41]; exact rollL_below X Y h
    rw [if_neg h41, if_neg h42] at h ⊢
    rw [if_neg h41, if_neg h42]
    have n0 : ∀ z, ¬ (shapeL op z).1 = 0 := fun z e => (shapeL_le op z).2.2.2.1 e (by omega)
    rw [if_neg (n0 _)] at h ⊢
    rw [if_neg (n0 _)]
    have e : shapeL op (topZ (X ++ Y)) = shapeL op (topZ Y) := by
      by_cases h35 : op = 35
      · rw [topZ_app X Y (fun e => by
          subst e h35
          exact h rfl)]
      · exact shape_z op h35 _ _
    rw [e]
    exact replL_below _ _ X Y (shapeL_le op _).2.2.1 hx hy h
  · rw [(doL_err op h42 Y (by omega)).2 hr, (doL_err op h42 (X ++ Y) (by simp; omega)).2 hr]
end Go.Proofs.Ytjmbmhjhnoiclaa
