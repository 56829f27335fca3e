/- Signs in texts, and folded letters, as plain functions of lists of bytes. No Go text is spoken of. -/
import Derived.Test.YtgmdagjaigbajaaText
namespace Go.Proofs.Ytgmdagjaigbajaa
set_option linter.unusedVariables false

/-- The value of a hexadecimal digit. -/
def hexV (c : UInt8) : Option Nat :=
  if 48 ≤ c.toNat ∧ c.toNat ≤ 57 then some (c.toNat - 48)
  else if 65 ≤ c.toNat ∧ c.toNat ≤ 70 then some (c.toNat - 55)
  else if 97 ≤ c.toNat ∧ c.toNat ≤ 102 then some (c.toNat - 87) else none
theorem hexV_lt {c : UInt8} {d : Nat} (h : hexV c = some d) : d < 16 := by
  unfold hexV at h
  split at h
  · injection h; omega
  · split at h
    · injection h; omega
    · split at h
      · injection h; omega
      · cases h
/-- The byte that two digits tell. -/
def hexP : List UInt8 → Option UInt8
  | a :: b :: _ => match hexV a, hexV b with
    | some x, some y => some (16 * x + y).toUInt8
    | _, _ => none
  | _ => none
def escX (c : UInt8) (r : List UInt8) : UInt8 × Nat := match hexP r with | some v => (v, 3) | none => (c, 1)
/-- What a letter behind a backslash stands for, and how many bytes that is. -/
def escL (c : UInt8) (r : List UInt8) : UInt8 × Nat :=
  if c.toNat = 110 then (10, 1) else if c.toNat = 116 then (9, 1) else if c.toNat = 114 then (13, 1) else if c.toNat = 122 then (0, 1) else if c.toNat = 113 then (34, 1)
  else if c.toNat = 120 then escX c r else (c, 1)
theorem hexP_len {r : List UInt8} {v : UInt8} (h : hexP r = some v) : 2 ≤ r.length := by
  match r, h with
  | [], h => cases h
  | [_], h => cases h
  | _ :: _ :: _, _ => simp
theorem escL_pos (c : UInt8) (r : List UInt8) : 1 ≤ (escL c r).2 := by
  unfold escL escX
  repeat' split
  all_goals simp
theorem escL_le (c : UInt8) (r : List UInt8) : (escL c r).2 ≤ (c :: r).length := by
  unfold escL escX
  repeat' split
  all_goals simp
  rename_i h
  have := hexP_len h
  omega
/-- The text ahead of the next quotation mark, with signs turned, and how many bytes that is, the mark too. -/
def turnL (l : List UInt8) : List UInt8 × Nat :=
  match l with
  | [] => ([], 0)
  | c :: r =>
    if c.toNat = 34 then ([], 1)
    else if c.toNat ≠ 92 then (c :: (turnL r).1, (turnL r).2 + 1)
    else match r with
      | [] => ([], 1)
      | d :: s => ((escL d s).1 :: (turnL ((d :: s).drop (escL d s).2)).1, 1 + (escL d s).2 + (turnL ((d :: s).drop (escL d s).2)).2)
termination_by l.length
decreasing_by all_goals (simp; try omega)
theorem turn_nil : turnL [] = ([], 0) := by rw [turnL.eq_def]
theorem turn_end {c : UInt8} (r : List UInt8) (h : c.toNat = 34) : turnL (c :: r) = ([], 1) := by rw [turnL.eq_def]; simp [h]
theorem turn_plain {c : UInt8} (r : List UInt8) (h : c.toNat ≠ 34) (h2 : c.toNat ≠ 92) : turnL (c :: r) = (c :: (turnL r).1, (turnL r).2 + 1) := by rw [turnL.eq_def]; simp [h, h2]
theorem turn_last {c : UInt8} (h : c.toNat = 92) : turnL [c] = ([], 1) := by rw [turnL.eq_def]; simp [h]
theorem turn_sign {c : UInt8} (d : UInt8) (s : List UInt8) (h : c.toNat = 92) : turnL (c :: d :: s) = ((escL d s).1 :: (turnL ((d :: s).drop (escL d s).2)).1, 1 + (escL d s).2 + (turnL ((d :: s).drop (escL d s).2)).2) := by
  rw [turnL.eq_def]; simp [h]
theorem turn_le : ∀ (n : Nat) (l : List UInt8), l.length ≤ n → (turnL l).2 ≤ l.length ∧ (turnL l).1.length ≤ l.length := by
  intro n
  induction n with
  | zero => intro l h; obtain rfl : l = [] := List.eq_nil_of_length_eq_zero (by omega); rw [turn_nil]; simp
  | succ n ih =>
    intro l h
    match l, h with
    | [], _ => rw [turn_nil]; simp
    | c :: r, h =>
      have hr := ih r (by simpa using h)
      by_cases h1 : c.toNat = 34
      · rw [turn_end r h1]; simp
      · by_cases h2 : c.toNat = 92
        · match r, h, hr with
          | [], _, _ => rw [turn_last h2]; simp
          | d :: s, h, hr =>
            rw [turn_sign d s h2]
            have h3 := escL_pos d s
            have h4 := escL_le d s
            have h5 := ih ((d :: s).drop (escL d s).2) (by simp at h ⊢; omega)
            simp only [List.length_drop, List.length_cons] at h4 h5 ⊢
            omega
        · rw [turn_plain r h1 h2]
          simp only [List.length_cons]
          omega
/-- Capital letters made small. -/
def foldC (c : UInt8) : UInt8 := if 65 ≤ c.toNat ∧ c.toNat ≤ 90 then c + 32 else c
def foldL (l : List UInt8) : List UInt8 := l.map foldC
theorem foldC_nat (c : UInt8) : (foldC c).toNat = if 65 ≤ c.toNat ∧ c.toNat ≤ 90 then c.toNat + 32 else c.toNat := by
  unfold foldC
  split
  · rw [UInt8.toNat_add, show (32 : UInt8).toNat = 32 from rfl]; omega
  · rfl
end Go.Proofs.Ytgmdagjaigbajaa
