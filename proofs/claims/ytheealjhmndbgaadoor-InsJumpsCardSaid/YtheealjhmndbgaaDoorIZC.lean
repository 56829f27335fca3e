/- Layer 10: what InsLoops needs: loops one within the other. No condition. -/
import Derived.Test.YtheealjhmndbgaaDoorIZB
namespace Go.Proofs.YtheealjhmndbgaaDoor
open Go.RowKit
set_option linter.unusedVariables false
set_option linter.unusedSimpArgs false

/-- The instruction at i: N loops begin, N drops, N loops end. -/
def eltX (N : Nat) (asks : Bool) (i : Nat) : Xi := if i < N then (if asks then ⟨6, 3 * (N : Int) - i, 0⟩ else ⟨5, 0, 0⟩) else if i < 2 * N then ⟨11, 0, 0⟩ else ⟨7, 3 * (N : Int) - i, 0⟩
def lpL (N : Nat) (asks : Bool) (j : Nat) : List Xi := (List.range j).map (eltX N asks)
theorem lp_len (N : Nat) (asks : Bool) (j : Nat) : (lpL N asks j).length = j := by simp [lpL]
theorem lp_next (N : Nat) (asks : Bool) (j : Nat) : lpL N asks j ++ [eltX N asks j] = lpL N asks (j + 1) := by simp [lpL, List.range_succ]
theorem lp_get (N : Nat) (asks : Bool) (j i : Nat) (h : i < j) (R : List Xi) : (lpL N asks j ++ R)[i]? = some (eltX N asks i) := by
  rw [List.getElem?_append_left (by rw [lp_len]; exact h)]
  simp [lpL, h]
theorem lp_take (N : Nat) (asks : Bool) (j k : Nat) (h : k ≤ j) : lpL N asks j = lpL N asks k ++ (List.range (j - k)).map (fun i => eltX N asks (k + i)) := by
  obtain ⟨d, rfl⟩ : ∃ d, j = k + d := ⟨j - k, by omega⟩
  rw [Nat.add_sub_cancel_left]
  unfold lpL
  rw [List.range_add, List.map_append, List.map_map]
  rfl
/-- How many loops are open ahead of i. -/
def labN (N i : Nat) : Int := if 2 * N < i then 3 * (N : Int) - i else if i ≤ N then i else N
theorem elt_line (N : Nat) (asks : Bool) (i : Nat) (h : i < 3 * N) : ((i : Int) + 1, labN N (i + 1) - labN N i) ∈ waysX (eltX N asks i) i := by
  have e : labN N (i + 1) - labN N i = if i < N then 1 else if i < 2 * N then 0 else -1 := by
    unfold labN
    repeat' split
    all_goals first | omega | (push_cast; omega)
  rw [e]
  unfold eltX
  by_cases h1 : i < N
  · rw [if_pos h1, if_pos h1]; cases asks <;> simp [waysX]
  · rw [if_neg h1, if_neg h1]
    by_cases h2 : i < 2 * N
    · rw [if_pos h2, if_pos h2]; simp [waysX]
    · rw [if_neg h2, if_neg h2]; simp [waysX]
/-- Straight on, as far as the instructions go. -/
theorem lp_line (N : Nat) (asks : Bool) (j : Nat) (hj : j ≤ 3 * N) (R : List Xi) : ∀ k, k ≤ j → Rh (lpL N asks j ++ R) k (labN N k) := fun k => by
  induction k with
  | zero => intro _; have : labN N 0 = 0 := by unfold labN; simp
            rw [this]; exact Rh.start
  | succ k ih =>
    intro hk
    have := Rh.step (ih (by omega)) (lp_get N asks j k (by omega) R) (elt_line N asks k (by omega))
    have e : labN N k + (labN N (k + 1) - labN N k) = labN N (k + 1) := by omega
    simp only [e] at this
    exact this
def nestL (N : Nat) (asks : Bool) : List Xi := lpL N asks (3 * N) ++ [⟨15, 0, 0⟩]
theorem nest_len (N : Nat) (asks : Bool) : (nestL N asks).length = 3 * N + 1 := by simp [nestL, lp_len]
theorem nest_last (N : Nat) (asks : Bool) : (nestL N asks)[3 * N]? = some ⟨15, 0, 0⟩ := by
  unfold nestL
  rw [List.getElem?_append_right (by rw [lp_len]; exact Nat.le_refl _), lp_len, Nat.sub_self]
  rfl
theorem nest_get {N : Nat} {asks : Bool} {i : Nat} {x : Xi} (h : (nestL N asks)[i]? = some x) : (i < 3 * N ∧ x = eltX N asks i) ∨ (i = 3 * N ∧ x = ⟨15, 0, 0⟩) := by
  have hl := (List.getElem?_eq_some_iff.1 h).1
  rw [nest_len] at hl
  by_cases e : i < 3 * N
  · unfold nestL at h
    rw [lp_get N asks (3 * N) i e] at h
    injection h with h
    exact Or.inl ⟨e, h.symm⟩
  · have : i = 3 * N := by omega
    subst this
    rw [nest_last] at h
    injection h with h
    exact Or.inr ⟨rfl, h.symm⟩
theorem lab_range (N i : Nat) (h : i ≤ 3 * N) : 0 ≤ labN N i ∧ labN N i ≤ N := by
  unfold labN
  repeat' split
  all_goals omega
theorem nest_lab (N : Nat) (asks : Bool) : Lab (nestL N asks) ((List.range (3 * N + 1)).map (labN N)) := by
  have get : ∀ k v, ((List.range (3 * N + 1)).map (labN N))[k]? = some v → k < 3 * N + 1 ∧ v = labN N k := fun k v h => by
    rw [List.getElem?_map] at h
    obtain ⟨j, hj, rfl⟩ := Option.map_eq_some_iff.1 h
    have hl := (List.getElem?_eq_some_iff.1 hj).1
    simp at hl
    rw [List.getElem?_range hl] at hj
    injection hj with hj
    subst hj
    exact ⟨hl, rfl⟩
  have put : ∀ k, k < 3 * N + 1 → ((List.range (3 * N + 1)).map (labN N))[k]? = some (labN N k) := fun k h => by
    rw [List.getElem?_map, List.getElem?_range h]; rfl
  refine ⟨by rw [nest_len]; simp, by rw [nest_len]; omega, by rw [put 0 (by omega)]; simp [labN], fun k v hk hv => ?_, fun v hv => ?_, fun k v x hk hv hx => ?_⟩
  · obtain ⟨h1, rfl⟩ := get k v hk
    exact lp_line N asks (3 * N) (Nat.le_refl _) _ k (by omega)
  · obtain ⟨j, hj, rfl⟩ := List.mem_map.1 hv
    have := lab_range N j (by have := List.mem_range.1 hj; omega)
    simp
    omega
  · obtain ⟨h1, rfl⟩ := get k v hk
    rcases nest_get hx with ⟨h2, rfl⟩ | ⟨rfl, rfl⟩
    · have hl := lab_range N k (by omega)
      have hline : ∀ d, labN N (k + 1) = labN N k + d → ∃ t : Nat, (((k : Int) + 1, d) : Int × Int).1 = t ∧ ((List.range (3 * N + 1)).map (labN N))[t]? = some (labN N k + d) ∧ 0 ≤ labN N k + d := fun d hd =>
        ⟨k + 1, by simp, by rw [put (k + 1) (by omega), hd], by rw [← hd]; exact (lab_range N (k + 1) (by omega)).1⟩
      unfold eltX
      by_cases hA : k < N
      · have e1 : labN N (k + 1) = labN N k + 1 := by
          unfold labN
          repeat' split
          all_goals first | omega | (push_cast; omega)
        have eB : labN N k = k := by unfold labN; rw [if_neg (by omega), if_pos (by omega)]
        rw [if_pos hA]
        cases asks with
        | false =>
          intro tm h
          have : tm = ((k : Int) + 1, 1) := by simpa [waysX] using h
          subst this
          exact hline 1 e1
        | true =>
          intro tm h
          have : tm = ((k : Int) + 1, 1) ∨ tm = (3 * (N : Int) - k, 0) := by simpa [waysX] using h
          rcases this with rfl | rfl
          · exact hline 1 e1
          · refine ⟨3 * N - k, by simp only; omega, ?_, by simp only; omega⟩
            rw [put _ (by omega)]
            congr 1
            simp only
            rw [eB]
            unfold labN
            repeat' split
            all_goals omega
      · rw [if_neg hA]
        by_cases hB : k < 2 * N
        · have e1 : labN N (k + 1) = labN N k + 0 := by
            unfold labN
            repeat' split
            all_goals first | omega | (push_cast; omega)
          rw [if_pos hB]
          intro tm h
          have : tm = ((k : Int) + 1, 0) := by simpa [waysX] using h
          subst this
          exact hline 0 e1
        · have e1 : labN N (k + 1) = labN N k + -1 := by
            unfold labN
            repeat' split
            all_goals first | omega | (push_cast; omega)
          rw [if_neg hB]
          intro tm h
          have : tm = ((k : Int) + 1, -1) ∨ tm = (3 * (N : Int) - k, 0) := by simpa [waysX] using h
          rcases this with rfl | rfl
          · exact hline (-1) e1
          · refine ⟨3 * N - k, by simp only; omega, ?_, by simp only; omega⟩
            rw [put _ (by omega)]
            congr 1
            simp only
            unfold labN
            repeat' split
            all_goals omega
    · intro tm h
      simp [waysX] at h
theorem elt_well (N : Nat) (asks : Bool) (i : Nat) (hN : N ≤ 20) (hi : i ≤ 100) : WellX (eltX N asks i) := by
  unfold eltX
  split
  · cases asks
    · exact ⟨by simp, by unfold I64; simp, by unfold I64; simp⟩
    · exact ⟨by simp, by unfold I64; simp only [if_true]; omega, by unfold I64; simp only [if_true]; omega⟩
  · split
    · exact ⟨by decide, by unfold I64; decide, by unfold I64; decide⟩
    · exact ⟨by simp, by unfold I64; simp only; omega, by unfold I64; simp only; omega⟩
theorem elt_loc (N : Nat) (asks : Bool) (h : 0 < N) (R : List Xi) (j : Nat) (hj : 0 < j) : locX (lpL N asks j ++ R) = 0 := by
  obtain ⟨k, rfl⟩ : ∃ k, j = k + 1 := ⟨j - 1, by omega⟩
  have : lpL N asks (k + 1) = eltX N asks 0 :: (List.range k).map (fun i => eltX N asks (i + 1)) := by
    unfold lpL
    rw [List.range_succ_eq_map, List.map_cons, List.map_map]
    rfl
  rw [this, List.cons_append]
  simp only [locX]
  unfold eltX
  rw [if_pos h]
  cases asks <;> rfl
theorem nest_may (N : Nat) (asks : Bool) (h1 : 1 ≤ N) (h20 : N ≤ 20) : MayP (nestL N asks) 0 := by
  have hv : ((List.range (3 * N + 1)).map (labN N))[3 * N]? = some 0 := by
    rw [List.getElem?_map, List.getElem?_range (by omega)]
    simp only [Option.map_some]
    congr 1
    unfold labN
    repeat' split
    all_goals omega
  have hlen := nest_len N asks
  rw [MayP.of (by omega) (nest_lab N asks) (by rw [hlen]; exact nest_last N asks) (by rw [hlen]; exact hv)]
  refine ⟨by decide, fun i x hx => ?_⟩
  rw [hlen, show locX (nestL N asks) = 0 from elt_loc N asks (by omega) _ _ (by omega), fit_split]
  rcases nest_get hx with ⟨h2, rfl⟩ | ⟨rfl, rfl⟩
  · unfold eltX
    split
    · cases asks
      · simp [kindX, spanX]
      · simp [kindX, spanX]; omega
    · split
      · simp [kindX, spanX]
      · simp [kindX, spanX]; omega
  · simp [kindX, spanX]
/-- A loop that is not closed. -/
theorem open_may (N : Nat) (asks : Bool) (h1 : 1 ≤ N) : ¬ MayP (lpL N asks (3 * N - 1) ++ [⟨15, 0, 0⟩]) 0 := by
  rintro ⟨_, o, x, v, hlab, hx, hv, hend, _⟩
  have hl : (lpL N asks (3 * N - 1) ++ [(⟨15, 0, 0⟩ : Xi)]).length - 1 = 3 * N - 1 := by rw [List.length_append, lp_len]; simp
  rw [hl] at hx hv
  obtain ⟨k, e, h2, _⟩ := hlab.reach (lp_line N asks (3 * N - 1) (by omega) [⟨15, 0, 0⟩] (3 * N - 1) (Nat.le_refl _))
  have e := Int.ofNat.inj e
  subst e
  rw [h2] at hv
  injection hv with hv
  rw [List.getElem?_append_right (by rw [lp_len]; exact Nat.le_refl _), lp_len, Nat.sub_self] at hx
  simp at hx
  subst hx hv
  unfold endX at hend
  have h3 := of_decide_eq_true hend
  have h4 : labN N (3 * N - 1) = 1 := by
    unfold labN
    repeat' split
    all_goals omega
  rw [h4] at h3
  simp at h3
/-- A loop that is closed twice. -/
theorem twice_bad (N : Nat) (asks : Bool) : Bad (lpL N asks (3 * N) ++ [⟨7, 0, 0⟩, ⟨15, 0, 0⟩]) := by
  have r := lp_line N asks (3 * N) (Nat.le_refl _) [⟨7, 0, 0⟩, ⟨15, 0, 0⟩] (3 * N) (Nat.le_refl _)
  have e : labN N (3 * N) = 0 := by
    unfold labN
    repeat' split
    all_goals omega
  rw [e] at r
  have hx : (lpL N asks (3 * N) ++ [(⟨7, 0, 0⟩ : Xi), ⟨15, 0, 0⟩])[3 * N]? = some ⟨7, 0, 0⟩ := by
    rw [List.getElem?_append_right (by rw [lp_len]; exact Nat.le_refl _), lp_len, Nat.sub_self]
    rfl
  exact ⟨_, _, Rh.step r hx (tm := (((3 * N : Nat) : Int) + 1, -1)) (by simp [waysX]), Or.inl (by simp)⟩
end Go.Proofs.YtheealjhmndbgaaDoor
