/- Layer 10: what InsBounds needs: a definition that goes straight on; one wrong instruction in it. No condition. -/
import Derived.Test.YtheealjhmndbgaaDoorIX
namespace Go.Proofs.YtheealjhmndbgaaDoor
open Go.RowKit
set_option linter.unusedVariables false
set_option linter.unusedSimpArgs false

theorem lab_flat {L : List Xi} (h0 : 0 < L.length) (h : ∀ i x, L[i]? = some x → i + 1 < L.length → waysX x i = [((i : Int) + 1, 0)]) (hl : ∀ x, L[L.length - 1]? = some x → waysX x (L.length - 1) = []) : Lab L (List.replicate L.length 0) := by
  have r : ∀ k : Nat, k < L.length → Rh L k 0 := fun k => by
    induction k with
    | zero => exact fun _ => Rh.start
    | succ k ih =>
      intro hk
      have hx : L[k]? = some (L[k]'(by omega)) := List.getElem?_eq_getElem _
      have := Rh.step (ih (by omega)) hx (tm := ((k : Int) + 1, 0)) (by rw [h k _ hx hk]; simp)
      simpa using this
  refine ⟨by simp, h0, by rw [List.getElem?_replicate, if_pos h0], fun k v hk hv => ?_, fun v hv => ?_, fun k v x hk hv hx => ?_⟩
  · rw [List.getElem?_replicate] at hk
    split at hk
    · next hkl => injection hk with hk; subst hk; exact r k hkl
    · cases hk
  · have := (List.mem_replicate.1 hv).2
    subst this
    exact ⟨by omega, by simp⟩
  · have hkl := (List.getElem?_eq_some_iff.1 hx).1
    rw [List.getElem?_replicate, if_pos hkl] at hk
    injection hk with hk
    subst hk
    by_cases e : k + 1 < L.length
    · rw [h k x hx e]
      intro tm htm
      obtain rfl := List.mem_singleton.1 htm
      exact ⟨k + 1, by simp, by rw [List.getElem?_replicate, if_pos e]; rfl, by simp⟩
    · have e2 : k = L.length - 1 := by omega
      subst e2
      rw [hl x hx]
      exact Cl.nil _ _
/-- The five instructions in turn. -/
def ptX (r : Nat) : Xi := if r = 0 then ⟨1, 0, -3⟩ else if r = 1 then ⟨2, 4, 0⟩ else if r = 2 then ⟨13, 1, 0⟩ else if r = 3 then ⟨14, 0, 0⟩ else ⟨11, 0, 0⟩
/-- The definition, with so many of them. -/
def boH (i : Nat) : List Xi := ⟨12, 2, 0⟩ :: (List.range i).map fun j => ptX (j % 5)
def boL (m : Nat) : List Xi := boH m ++ [⟨15, 0, 0⟩]
theorem boH_len (i : Nat) : (boH i).length = i + 1 := by simp [boH]
theorem boL_len (m : Nat) : (boL m).length = m + 2 := by simp [boL, boH_len]
theorem boH_next (i : Nat) : boH i ++ [ptX (i % 5)] = boH (i + 1) := by simp [boH, List.range_succ]
theorem bo_get {m i : Nat} {x : Xi} (h : (boL m)[i]? = some x) : (i = 0 ∧ x = ⟨12, 2, 0⟩) ∨ (∃ j, j < m ∧ i = j + 1 ∧ x = ptX (j % 5)) ∨ (i = m + 1 ∧ x = ⟨15, 0, 0⟩) := by
  have hl := (List.getElem?_eq_some_iff.1 h).1
  rw [boL_len] at hl
  unfold boL at h
  by_cases e : i < m + 1
  · rw [List.getElem?_append_left (by rw [boH_len]; exact e)] at h
    unfold boH at h
    cases i with
    | zero => simp at h; exact Or.inl ⟨rfl, h.symm⟩
    | succ j =>
      rw [List.getElem?_cons_succ, List.getElem?_map, List.getElem?_range (by omega)] at h
      simp at h
      exact Or.inr (Or.inl ⟨j, by omega, rfl, h.symm⟩)
  · rw [List.getElem?_append_right (by rw [boH_len]; omega), boH_len] at h
    have : i = m + 1 := by omega
    subst this
    simp at h
    exact Or.inr (Or.inr ⟨rfl, h.symm⟩)
theorem pt_ways (r i : Nat) : waysX (ptX r) i = [((i : Int) + 1, 0)] := by
  unfold ptX
  split
  · rfl
  · split
    · rfl
    · split
      · rfl
      · split <;> rfl
theorem pt_well (r : Nat) : WellX (ptX r) := by
  unfold ptX
  split
  · exact ⟨by decide, by unfold I64; decide, by unfold I64; decide⟩
  · split
    · exact ⟨by decide, by unfold I64; decide, by unfold I64; decide⟩
    · split
      · exact ⟨by decide, by unfold I64; decide, by unfold I64; decide⟩
      · split <;> exact ⟨by decide, by unfold I64; decide, by unfold I64; decide⟩
theorem bo_lab (m : Nat) : Lab (boL m) (List.replicate (m + 2) 0) := by
  have := lab_flat (L := boL m) (by rw [boL_len]; omega) (fun i x hx hi => by
    rw [boL_len] at hi
    rcases bo_get hx with ⟨rfl, rfl⟩ | ⟨j, hj, rfl, rfl⟩ | ⟨rfl, rfl⟩
    · rfl
    · exact pt_ways _ _
    · omega) (fun x hx => by
    rw [boL_len] at hx ⊢
    rcases bo_get hx with ⟨h, _⟩ | ⟨j, hj, h, _⟩ | ⟨_, rfl⟩
    · omega
    · omega
    · rfl)
  rwa [boL_len] at this
theorem wrap_one : wrap64 1 = 1 := by unfold wrap64; omega
theorem wrap_less : wrap64 (-1) = -1 := by unfold wrap64; omega
theorem bo_loc (m : Nat) : locX (boL m) = 2 := rfl
theorem pt_fit (n words : Int) (i r : Nat) (hr : r < 5) (h : r = 1 → 4 ≤ words) : fitX 2 n words (i + 1) (ptX r) = true := by
  rw [fit_split]
  have h5 : r = 0 ∨ r = 1 ∨ r = 2 ∨ r = 3 ∨ r = 4 := by omega
  rcases h5 with rfl | rfl | rfl | rfl | rfl
  · simp [ptX, kindX, spanX]
  · have := h rfl
    simp [ptX, kindX, spanX]
    omega
  · simp [ptX, kindX, spanX, wrap_one]
  · simp [ptX, kindX, spanX, wrap_one]
  · simp [ptX, kindX, spanX]
theorem bo_may (m : Nat) (hm : m ≤ 50) (words : Int) : MayP (boL m) words ↔ (m < 2 ∨ 4 ≤ words) := by
  have hlast : (boL m)[(boL m).length - 1]? = some ⟨15, 0, 0⟩ := by
    rw [boL_len]
    unfold boL
    rw [List.getElem?_append_right (by rw [boH_len]; omega), boH_len]
    simp
  rw [MayP.of (by rw [boL_len]; omega) (bo_lab m) hlast (v := 0) (by rw [boL_len, List.getElem?_replicate, if_pos (by omega)])]
  constructor
  · rintro ⟨_, h⟩
    by_cases h2 : m < 2
    · exact Or.inl h2
    · right
      have hx : (boL m)[2]? = some (ptX 1) := by
        unfold boL
        rw [List.getElem?_append_left (by rw [boH_len]; omega)]
        unfold boH
        rw [List.getElem?_cons_succ, List.getElem?_map, List.getElem?_range (by omega)]
        rfl
      have := h 2 _ hx
      rw [fit_split] at this
      have h2 := this.2.1.2
      simpa [ptX, kindX, spanX] using h2
  · intro h
    refine ⟨by decide, fun i x hx => ?_⟩
    rw [bo_loc, boL_len]
    rcases bo_get hx with ⟨rfl, rfl⟩ | ⟨j, hj, rfl, rfl⟩ | ⟨rfl, rfl⟩
    · rw [fit_split]; simp [kindX, spanX]
    · exact pt_fit _ _ _ _ (Nat.mod_lt _ (by decide)) (fun e => by rcases h with h | h; (have : j < 2 := by omega); (have : j % 5 = 1 := e); omega; exact h)
    · rw [fit_split]; simp [kindX, spanX]
/-- The wrong ones. -/
def badL (n : Int) : List Xi := [⟨0, 0, 0⟩, ⟨16, 0, 0⟩, ⟨255, 0, 0⟩, ⟨2, 0, 0⟩, ⟨2, 5, 0⟩, ⟨3, n, 0⟩, ⟨4, -1, 0⟩, ⟨13, 2, 0⟩, ⟨14, -1, 0⟩, ⟨12, 17, 0⟩, ⟨11, 0, 1⟩, ⟨11, 1, 0⟩, ⟨1, 1, 0⟩, ⟨15, 1, 0⟩]
theorem bad_well (n : Int) (hn : 0 ≤ n ∧ n ≤ 1000) : ∀ x ∈ badL n, WellX x := fun x hx => by
  simp only [badL, List.mem_cons, List.not_mem_nil, or_false] at hx
  rcases hx with rfl | rfl | rfl | rfl | rfl | rfl | rfl | rfl | rfl | rfl | rfl | rfl | rfl | rfl <;> exact ⟨by simp, by unfold I64; simp only; omega, by unfold I64; simp only; omega⟩
theorem bad_may (m : Nat) (idx h : Nat) (hi : idx < m + 2) (x : Xi) (hx : (badL ((m : Int) + 2))[h]? = some x) : ¬ MayP ((boL m).set idx x) 4 := by
  rintro ⟨_, _, _, _, _, _, _, _, hf⟩
  have hl : ((boL m).set idx x).length = m + 2 := by rw [List.length_set, boL_len]
  have h1 := hf idx x (List.getElem?_set_self (by rw [boL_len]; exact hi))
  rw [fit_split, hl] at h1
  have hloc : locX ((boL m).set idx x) = 2 ∨ (locX ((boL m).set idx x) = if x.op = 12 then x.a else 0) := by
    cases idx with
    | zero => exact Or.inr rfl
    | succ k => exact Or.inl rfl
  generalize locX ((boL m).set idx x) = loc at h1 hloc
  have hm := List.mem_of_getElem? hx
  simp only [badL, List.mem_cons, List.not_mem_nil, or_false] at hm
  obtain ⟨p1, p2, p3, p4⟩ := h1
  rcases hm with rfl | rfl | rfl | rfl | rfl | rfl | rfl | rfl | rfl | rfl | rfl | rfl | rfl | rfl
  all_goals simp [kindX, spanX] at p1 p2 p4 hloc
  all_goals first
    | omega
    | (rcases hloc with rfl | rfl <;> simp [wrap_one, wrap_less] at p2 <;> omega)
    | (rcases hloc with rfl | rfl <;> revert p2 <;> unfold wrap64 <;> omega)
end Go.Proofs.YtheealjhmndbgaaDoor
