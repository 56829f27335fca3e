/- Texts as lists of bytes; how far a row of bytes goes on. No Go text is spoken of. -/
import Derived.Test.YtacmidlhfcnkiaaC1Base
namespace Go.Proofs.Ytacmidlhfcnkiaa
set_option linter.unusedVariables false

def str (l : List UInt8) : ByteArray := ⟨l.toArray⟩
theorem str_size (l : List UInt8) : (str l).size = l.length := by simp [str, ByteArray.size]
theorem str_list (l : List UInt8) : (str l).data.toList = l := by simp [str]
theorem str_get (l : List UInt8) (i : Nat) (h : i < (str l).size) : (str l)[i] = l[i]'(by rw [str_size] at h; exact h) := by
  show (str l).data[i]'_ = _
  simp [str]
theorem str_back (S : ByteArray) : S = str S.data.toList := by simp [str]
theorem str_extract (l : List UInt8) (i j : Nat) : (str l).extract i j = str ((l.drop i).take (j - i)) := by
  apply ByteArray.ext
  simp [str, ByteArray.data_extract, List.extract_eq_take_drop]
theorem str_append (a b : List UInt8) : str a ++ str b = str (a ++ b) := by
  apply ByteArray.ext
  rw [ByteArray.data_append]
  simp [str]
theorem str_inj {a b : List UInt8} (h : str a = str b) : a = b := by
  have := congrArg (fun s => s.data.toList) h
  simpa [str_list] using this
theorem str_beq (a b : List UInt8) : (str a == str b) = decide (a = b) := by
  rw [Bool.eq_iff_iff, decide_eq_true_iff, MapKept.bytes_beq]
  exact ⟨str_inj, fun h => by rw [h]⟩
/-- How far a row goes on: the first m meet q, and the next one, if there is one, does not. -/
theorem take_while {α : Type} (q : α → Bool) : ∀ (M : List α) (m : Nat), m ≤ M.length → (∀ j (hj : j < M.length), j < m → q M[j] = true) → (∀ h : m < M.length, q M[m] = false) → M.takeWhile q = M.take m
  | [], m, h, _, _ => by simp
  | x :: M, 0, _, _, h0 => by
    have := h0 (by simp)
    simp at this
    simp [this]
  | x :: M, m + 1, h, h1, h0 => by
    have hx := h1 0 (by simp) (by omega)
    simp at hx
    rw [List.takeWhile_cons, if_pos hx, List.take_succ_cons, take_while q M m (by simpa using h) (fun j hj hm => by
      have := h1 (j + 1) (by simpa using hj) (by omega)
      simpa using this) (fun hm => by
      have := h0 (by simpa using hm)
      simpa using this)]
/-- From place k on: what is ahead of the next byte that p tells. -/
def upF (p : UInt8 → Bool) (L : List UInt8) (k : Nat) : List UInt8 := (L.drop k).takeWhile fun c => !p c
/-- The place behind that. -/
def upN (p : UInt8 → Bool) (L : List UInt8) (k : Nat) : Nat := min (k + (upF p L k).length + 1) L.length
theorem upF_at (p : UInt8 → Bool) (L : List UInt8) (k i : Nat) (hk : k ≤ i) (hi : i ≤ L.length) (h1 : ∀ j (hj : j < L.length), k ≤ j → j < i → p L[j] = false) (h2 : ∀ h : i < L.length, p L[i] = true) : upF p L k = (L.drop k).take (i - k) := by
  refine take_while _ _ _ (by simp; omega) (fun j hj hm => ?_) (fun h => ?_)
  · simp at hj
    have := h1 (k + j) (by omega) (by omega) (by omega)
    simp [this]
  · simp at h
    have := h2 (by omega)
    simp [show k + (i - k) = i by omega, this]
theorem upF_len (p : UInt8 → Bool) (L : List UInt8) (k i : Nat) (hk : k ≤ i) (hi : i ≤ L.length) (h1 : ∀ j (hj : j < L.length), k ≤ j → j < i → p L[j] = false) (h2 : ∀ h : i < L.length, p L[i] = true) : upN p L k = min (i + 1) L.length := by
  unfold upN
  rw [upF_at p L k i hk hi h1 h2]
  simp
  omega
/-- Whole parts that lie behind a place. -/
theorem upF_size (p : UInt8 → Bool) (L : List UInt8) (k : Nat) : (upF p L k).length ≤ L.length - k := by
  unfold upF
  have := (List.takeWhile_sublist (l := L.drop k) (fun c => !p c)).length_le
  simpa using this
theorem upN_le (p : UInt8 → Bool) (L : List UInt8) (k : Nat) : upN p L k ≤ L.length := by unfold upN; omega
def blank (c : UInt8) : Bool := decide (c.toNat ≤ 32)
/-- Behind the blanks. -/
def skipN (L : List UInt8) (k : Nat) : Nat := k + ((L.drop k).takeWhile blank).length
theorem skipN_at (L : List UInt8) (k i : Nat) (hk : k ≤ i) (hi : i ≤ L.length) (h1 : ∀ j (hj : j < L.length), k ≤ j → j < i → blank L[j] = true) (h2 : ∀ h : i < L.length, blank L[i] = false) : skipN L k = i := by
  unfold skipN
  rw [take_while blank _ (i - k) (by simp; omega) (fun j hj hm => by
    simp at hj
    have := h1 (k + j) (by omega) (by omega) (by omega)
    simpa using this) (fun h => by
    simp at h
    have := h2 (by omega)
    simpa [show k + (i - k) = i by omega] using this)]
  simp
  omega
/-- A place of a text. -/
def heldN (n : Nat) (i : Int) : Nat := (min (max i 0) (n : Int)).toNat
theorem heldN_le (n : Nat) (i : Int) : heldN n i ≤ n := by unfold heldN; omega
end Go.Proofs.Ytacmidlhfcnkiaa
