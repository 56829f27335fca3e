/- Layer 12: more facts of the table; a word is what its kind and number tell (TableBuilt). Condition: numbers of their kinds. -/
import Derived.Test.YtgmdagjaigbajaaTN
namespace Go.Proofs.Ytgmdagjaigbajaa
open Go.RowKit Go.ChangeShapes Go.WideShapes
set_option linter.unusedVariables false

def toT (x : En) : List UInt8 × Int × Nat × Bool × Bool := (x.s, x.k, x.n, x.now, x.only)
theorem toT_inj {x y : En} (h : toT x = toT y) : x = y := by
  cases x; cases y
  simp [toT] at h
  obtain ⟨rfl, rfl, rfl, rfl, rfl⟩ := h
  rfl
theorem map_toT {o : Option En} {x : En} (h : o.map toT = some (toT x)) : o = some x := by
  cases o with
  | none => cases h
  | some y => rw [toT_inj (Option.some.inj h)]
theorem find_1 : ∀ j : Fin 107, (fun s => (findT (foldL s)).map toT = some (toT (entK 1 j.val s))) ((namesK 1)[j.val]'(by have := j.isLt; have e : (namesK 1).length = 107 := (by decide); omega)) := by decide +kernel
theorem find_2 : ∀ j : Fin 9, (fun s => (findT (foldL s)).map toT = some (toT (entK 2 j.val s))) ((namesK 2)[j.val]'(by have := j.isLt; have e : (namesK 2).length = 9 := (by decide); omega)) := by decide +kernel
theorem find_3 : ∀ j : Fin 17, (fun s => (findT (foldL s)).map toT = some (toT (entK 3 j.val s))) ((namesK 3)[j.val]'(by have := j.isLt; have e : (namesK 3).length = 17 := (by decide); omega)) := by decide +kernel
theorem find_4 : ∀ j : Fin 47, (fun s => (findT (foldL s)).map toT = some (toT (entK 4 j.val s))) ((namesK 4)[j.val]'(by have := j.isLt; have e : (namesK 4).length = 47 := (by decide); omega)) := by decide +kernel
/-- Of a name that is there the word of that kind and number is found. -/
theorem find_name {k n : Int} (h : nameT k n ≠ []) : ∃ a b, findT (foldL (nameT k n)) = some ⟨nameT k n, k, n.toNat, a, b⟩ ∧ 1 ≤ n ∧ n ≤ 107 := by
  by_cases h1 : n < 1
  · exact absurd (nameT_low h1) h
  by_cases h2 : ((namesK k).length : Int) < n
  · exact absurd (nameT_far h2) h
  obtain ⟨j, hj⟩ : ∃ j : Nat, n = (j : Int) + 1 := ⟨(n - 1).toNat, by omega⟩
  have hjl : j < (namesK k).length := by omega
  have hl := names_len k
  have e := nameT_get hj hjl
  have hn : n.toNat = j + 1 := by omega
  rw [e, hn]
  refine ⟨decide ((namesK k)[j] ∈ nowK k), decide ((namesK k)[j] ∈ onlyK k), ?_, by omega, by omega⟩
  by_cases k1 : k = 1
  · subst k1; exact map_toT (find_1 ⟨j, hjl⟩)
  by_cases k2 : k = 2
  · subst k2; exact map_toT (find_2 ⟨j, hjl⟩)
  by_cases k3 : k = 3
  · subst k3; exact map_toT (find_3 ⟨j, hjl⟩)
  by_cases k4 : k = 4
  · subst k4; exact map_toT (find_4 ⟨j, hjl⟩)
  · have : namesK k = [] := by unfold namesK; rw [if_neg k1, if_neg k2, if_neg k3, if_neg k4]
    rw [this] at hjl
    simp at hjl
/-- How many of the first j words have a kind and number. -/
def cntX (k : Int) (n : Nat) (j : Nat) : Nat := ((tab.take j).filter fun y => decide (y.k = k) && decide (y.n = n)).length
theorem cntX_step (k : Int) (n : Nat) (j : Nat) (h : j < tab.length) : cntX k n (j + 1) = cntX k n j + if tab[j].k = k ∧ tab[j].n = n then 1 else 0 := by
  unfold cntX
  rw [List.take_succ_eq_append_getElem h, List.filter_append, List.length_append]
  by_cases e : tab[j].k = k <;> by_cases e2 : tab[j].n = n <;> simp [e, e2]
theorem cntX_le (k : Int) (n : Nat) (j : Nat) : cntX k n j ≤ j := by
  unfold cntX
  have h1 := List.length_filter_le (fun y : En => decide (y.k = k) && decide (y.n = n)) (tab.take j)
  have h2 : (tab.take j).length ≤ j := by rw [List.length_take]; omega
  omega
theorem once_all : ∀ j : Fin 180, (fun x : En => cntX x.k x.n 180 = 1) (tab[j.val]'(by have := j.isLt; rw [tab_len]; omega)) := by decide +kernel
theorem own_all : ∀ j : Fin 180, (fun x : En => nameT x.k x.n = x.s ∧ 1 ≤ x.n ∧ x.n ≤ 107 ∧ (x.k = 2 → x.only = decide (x.n < 7)) ∧ 1 ≤ x.k ∧ x.k ≤ 4) (tab[j.val]'(by have := j.isLt; rw [tab_len]; omega)) := by decide +kernel
end Go.Proofs.Ytgmdagjaigbajaa
