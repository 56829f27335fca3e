/- Layer 12: facts of names (for TableNames). No Go text is spoken of. -/
import Derived.Test.YtgmdagjaigbajaaTO
namespace Go.Proofs.Ytgmdagjaigbajaa
open Go.RowKit Go.ChangeShapes Go.WideShapes
set_option linter.unusedVariables false

/-- How many of the first j words have a name. -/
def cntS (s : List UInt8) (j : Nat) : Nat := ((tab.take j).filter fun y => decide (y.s = s)).length
theorem cntS_step (s : List UInt8) (j : Nat) (h : j < tab.length) : cntS s (j + 1) = cntS s j + if tab[j].s = s then 1 else 0 := by
  unfold cntS
  rw [List.take_succ_eq_append_getElem h, List.filter_append, List.length_append]
  by_cases e : tab[j].s = s <;> simp [e]
theorem cntS_le (s : List UInt8) (j : Nat) : cntS s j ≤ j := by
  unfold cntS
  have h1 := List.length_filter_le (fun y : En => decide (y.s = s)) (tab.take j)
  have h2 : (tab.take j).length ≤ j := by rw [List.length_take]; omega
  omega
theorem names_all : ∀ j : Fin 180, (fun x : En => cntS x.s 180 = 1 ∧ foldL x.s = x.s ∧ x.s ≠ [] ∧ x.s.length ≤ 31 ∧ (findT x.s).map toT = some (toT x)) (tab[j.val]'(by have := j.isLt; rw [tab_len]; omega)) := by decide +kernel
theorem findT_s {f : List UInt8} {y : En} (h : findT f = some y) : y.s = f := by
  have := List.find?_some h
  exact of_decide_eq_true this
theorem findT_more {s t : List UInt8} {y : En} (ht : t ≠ []) (h : findT (foldL (s ++ t)) = some y) : y.s ≠ s := by
  intro e
  have h1 := congrArg List.length (findT_s h)
  rw [e, foldL_len, List.length_append] at h1
  have : t.length ≠ 0 := fun h => ht (List.eq_nil_of_length_eq_zero h)
  omega
theorem foldC_great {c : UInt8} (h1 : 97 ≤ c.toNat) (h2 : c.toNat ≤ 122) : foldC (c - 32) = c ∧ (c - 32).toNat = c.toNat - 32 := by
  have e : (c - 32).toNat = c.toNat - 32 := by
    have h3 : (32 : UInt8) ≤ c := by rw [UInt8.le_iff_toNat_le]; exact Nat.le_trans (by decide) h1
    rw [UInt8.toNat_sub_of_le _ _ h3]
    rfl
  refine ⟨UInt8.toNat_inj.1 ?_, e⟩
  rw [foldC_nat, e, if_pos (by omega)]
  omega
/-- One letter more of a name that is folded again. -/
theorem fold_one {X P : List UInt8} {i : Nat} (hi : i < X.length) (hP : foldL P = X.take i) (c : UInt8) (hc : foldC c = X[i]) : foldL (P ++ [c]) = X.take (i + 1) := by
  rw [List.take_succ_eq_append_getElem hi, ← hP, ← hc]
  simp [foldL]
theorem set_one {X P : List UInt8} {i : Nat} (hi : i < X.length) (hl : P.length = i) (c : UInt8) : (P ++ X.drop i).set i c = (P ++ [c]) ++ X.drop (i + 1) := by
  rw [List.set_append_right _ _ (by omega), hl, Nat.sub_self, List.drop_eq_getElem_cons hi, List.set_cons_zero, List.append_assoc]
  rfl
theorem keep_one {X P : List UInt8} {i : Nat} (hi : i < X.length) (hl : P.length = i) : P ++ X.drop i = (P ++ [X[i]]) ++ X.drop (i + 1) := by
  rw [List.drop_eq_getElem_cons hi, List.append_assoc]
  rfl
theorem at_one {X P : List UInt8} {i : Nat} (hi : i < X.length) (hl : P.length = i) : (P ++ X.drop i)[i]? = some X[i] := by
  rw [List.getElem?_append_right (by omega), hl, Nat.sub_self]
  simp [hi]
theorem fold_own {X : List UInt8} (h : foldL X = X) (i : Nat) (hi : i < X.length) : foldC X[i] = X[i] := by
  have h2 : (foldL X)[i]? = X[i]? := by rw [h]
  rw [List.getElem?_eq_getElem (by rw [foldL_len]; exact hi), List.getElem?_eq_getElem hi] at h2
  have h3 := Option.some.inj h2
  simpa [foldL] using h3
end Go.Proofs.Ytgmdagjaigbajaa
