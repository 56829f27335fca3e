/- The document's answers for layer 3: the number that a text is. Condition: the text is of at most 1000000000 bytes, the base is from 2 to 36. -/
import Derived.Test.YtheealjhmndbgaaDoorC3RefE
import Derived.Deep.DeepCutAuto
import Derived.Deep.CutBlock
namespace Go.Proofs.YtheealjhmndbgaaDoor
open Go.RowKit
set_option linter.unusedVariables false

/-- The base that a text is read in, and how many letters tell it. -/
def pre (B : Nat) (l : List UInt8) : Nat × Nat := if l.head? = some 35 then (10, 1) else if l.head? = some 36 then (16, 1) else if l.head? = some 37 then (2, 1) else (B, 0)
theorem pre_bd (B : Nat) (l : List UInt8) (h2 : 2 ≤ B) (h36 : B ≤ 36) : 2 ≤ (pre B l).1 ∧ (pre B l).1 ≤ 36 ∧ (pre B l).2 ≤ 1 := by
  unfold pre
  split
  · exact ⟨by decide, by decide, by decide⟩
  · split
    · exact ⟨by decide, by decide, by decide⟩
    · split
      · exact ⟨by decide, by decide, by decide⟩
      · exact ⟨h2, h36, Nat.zero_le _⟩
theorem head_at (s : ByteArray) (h : 0 < s.size) : s.data.toList.head? = some s[0] := by
  have e := drop_at s 0 h
  rw [List.drop_zero] at e
  rw [e]
  rfl
theorem Own.set1 {w : World} {b : Nat} {x y : Value} (h : Own w b x y) (v : Value) : Own (w.setCell ⟨b, 1, none⟩ v) b x v := by
  have hne : (⟨b, 1, none⟩ : Addr) ≠ ⟨b, 0, none⟩ := by simp
  refine ⟨?_, World.cell?_setCell_same _ _ _ (h := h.c1), ?_, ?_, ?_⟩
  · rw [World.cell?_setCell_other (h := hne)]; exact h.c0
  · rw [World.frozen?_setCell]; exact h.f0
  · rw [World.frozen?_setCell]; exact h.f1
  · simpa [World.setCell] using h.lt
theorem Own.other1 {w : World} {b b' o : Nat} {x y : Value} (h : Own w b x y) (hb : b' ≠ b) (v : Value) : Own (w.setCell ⟨b', o, none⟩ v) b x y := by
  have hne : ∀ j, (⟨b', o, none⟩ : Addr) ≠ ⟨b, j, none⟩ := fun j e => hb (by injection e)
  refine ⟨?_, ?_, ?_, ?_, ?_⟩
  · rw [World.cell?_setCell_other (h := hne _)]; exact h.c0
  · rw [World.cell?_setCell_other (h := hne _)]; exact h.c1
  · rw [World.frozen?_setCell]; exact h.f0
  · rw [World.frozen?_setCell]; exact h.f1
  · simpa [World.setCell] using h.lt
/-- Is the letter at a place a minus? -/
def minus (l : List UInt8) (k : Nat) : Bool := l[k]? == some 45
theorem at_list (s : ByteArray) (k : Nat) (h : k < s.size) : s.data.toList[k]? = some s[k] := by
  have e := drop_at s k h
  have := congrArg List.head? e
  rw [List.head?_drop] at this
  exact this
/-- Is the last letter a point? -/
def point (l : List UInt8) : Bool := l.getLast? == some 46
/-- The number that a text is: its two cells, and its kind; a text that is none is 0, 0, of kind 0. -/
def numPart (l : List UInt8) (m : Bool) (j : Nat) (q : Nat × Nat) (d : Bool) : Int × Int × Int :=
  if (decide (0 < (if d then 0 else q.2)) || decide (l.length ≤ j + d.toNat)) = true then (0, 0, 0)
  else if d then (lo (if m then -(q.1 : Int) else (q.1 : Int)), hi (if m then -(q.1 : Int) else (q.1 : Int)), 2) else (lo (if m then -(q.1 : Int) else (q.1 : Int)), 0, 1)
def numOf (B : Nat) (l : List UInt8) : Int × Int × Int :=
  numPart l (minus l (pre B l).2) ((pre B l).2 + (minus l (pre B l).2).toNat) (acc (pre B l).1 0 (l.drop ((pre B l).2 + (minus l (pre B l).2).toNat))) ((acc (pre B l).1 0 (l.drop ((pre B l).2 + (minus l (pre B l).2).toNat))).2 == 1 && point l)
theorem point_is (s : ByteArray) (h : 0 < s.size) : point s.data.toList = ((s[s.size - 1].toNat : Int) == 46) := by
  unfold point
  have hl : s.data.toList.length = s.size := rfl
  rw [List.getLast?_eq_getElem?, hl, at_list s (s.size - 1) (by omega), Bool.eq_iff_iff, beq_iff_eq, beq_iff_eq, Option.some.injEq, ← UInt8.toNat_inj]
  have : (46 : UInt8).toNat = 46 := rfl
  omega
theorem extract_list (s : ByteArray) (j : Nat) : (s.extract j s.size).data.toList = s.data.toList.drop j := by
  rw [Lib.extract_data]
  simp [List.take_of_length_le]
theorem pre_is (B : Nat) (s : ByteArray) (h : 0 < s.size) : pre B s.data.toList = if (s[0].toNat : Int) = 35 then (10, 1) else if (s[0].toNat : Int) = 36 then (16, 1) else if (s[0].toNat : Int) = 37 then (2, 1) else (B, 0) := by
  unfold pre
  rw [head_at s h]
  have key : ∀ n : Nat, n < 256 → (some s[0] = some n.toUInt8 ↔ (s[0].toNat : Int) = n) := by
    intro n hn
    rw [Option.some.injEq, ← UInt8.toNat_inj, Nat.toUInt8_eq, UInt8.toNat_ofNat', Nat.mod_eq_of_lt hn]
    omega
  have k35 := key 35 (by decide)
  have k36 := key 36 (by decide)
  have k37 := key 37 (by decide)
  simp only [show (35 : Nat).toUInt8 = (35 : UInt8) from rfl, show (36 : Nat).toUInt8 = (36 : UInt8) from rfl, show (37 : Nat).toUInt8 = (37 : UInt8) from rfl] at k35 k36 k37
  simp only [k35, k36, k37]
  rfl
theorem minus_is (s : ByteArray) (k : Nat) : minus s.data.toList k = if h : k < s.size then ((s[k].toNat : Int) == 45) else false := by
  unfold minus
  by_cases h : k < s.size
  · rw [at_list s k h, dif_pos h, Bool.eq_iff_iff, beq_iff_eq, beq_iff_eq, Option.some.injEq, ← UInt8.toNat_inj]
    have : (45 : UInt8).toNat = 45 := rfl
    omega
  · rw [dif_neg h, List.getElem?_eq_none (by show s.size ≤ k; omega)]
    rfl
end Go.Proofs.YtheealjhmndbgaaDoor
