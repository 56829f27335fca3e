/- Layer 14 (frame): frames as a list, the uppermost one last, and what is done to them. Plain. -/
import Derived.Test.YtacmidlhfcnkiaaS6A
namespace Go.Proofs.Ytacmidlhfcnkiaa
open Go.RowKit
set_option linter.unusedVariables false

/-- A frame: its kind, A, B, X, Y and its locals. -/
structure Fm where
  k : Int
  a : Int
  b : Int
  x : Int
  y : Int
  l : List Int
def zF : Fm := ⟨0, 0, 0, 0, 0, []⟩
/-- Does a loop that is so far behind its limit end at the step s? -/
def endsF (d s : Int) : Bool := if s < 0 then decide (0 ≤ d) && decide (wrap64 (d + s) < 0) else decide (d < 0) && decide (0 ≤ wrap64 (d + s))
def pushL (L : List Fm) (q : Fm) : List Fm := if 128 ≤ L.length then L else L ++ [q]
def pushE (L : List Fm) : Int := if 128 ≤ L.length then -5 else 0
/-- The uppermost frame, if it is of the kind k. -/
def topK (k : Int) (L : List Fm) : Option Fm := L.getLast?.bind fun q => if q.k = k then some q else none
def popL (k : Int) (L : List Fm) : List Fm := if (topK k L).isSome then L.dropLast else L
def errK (k e : Int) (L : List Fm) : Int := if (topK k L).isSome then 0 else e
def cutL (n : Int) (L : List Fm) : List Fm := L.take n.toNat
/-- The place of the loop that has n others above it, and nothing else. -/
def loopAt (n : Int) (L : List Fm) : Option Fm := if 0 ≤ n ∧ n < (L.length : Int) ∧ ∀ q ∈ L.drop (L.length - 1 - n.toNat), q.k = 3 then L[L.length - 1 - n.toNat]? else none
def orE (e : Int) (o : Option Int) : Int := if o.isSome then 0 else e
def indexL (n : Int) (L : List Fm) : Option Int := (loopAt n L).map (·.x)
def stepEnd (s : Int) (L : List Fm) : Bool := match topK 3 L with
  | some q => endsF (wrap64 (q.x - q.y)) s
  | none => false
def stepL (s : Int) (L : List Fm) : List Fm := match topK 3 L with
  | some q => if endsF (wrap64 (q.x - q.y)) s then L.dropLast else L.dropLast ++ [{ q with x := wrap64 (q.x + s) }]
  | none => L
/-- Where the uppermost frame is that p tells of. -/
def topP (p : Fm → Bool) (L : List Fm) : Option Nat := (L.reverse.findIdx? p).map fun i => L.length - 1 - i
def hides (q : Fm) : Bool := decide (q.k = 4 ∨ q.k = 1)
/-- The place of the local i: of which frame. -/
def placeL (i : Int) (L : List Fm) : Option Nat := (topP hides L).bind fun at_ => L[at_]?.bind fun q => if q.k = 4 ∧ 0 ≤ i ∧ i < (q.l.length : Int) then some at_ else none
def localL (i : Int) (L : List Fm) : Option Int := (placeL i L).bind fun at_ => L[at_]?.bind fun q => q.l[i.toNat]?
def setL (i x : Int) (L : List Fm) : List Fm := match placeL i L with
  | some at_ => L.modify at_ fun q => { q with l := q.l.set i.toNat x }
  | none => L
def isCatch (q : Fm) : Bool := decide (q.k = 5)
def catchAt (L : List Fm) : Option Nat := topP isCatch L
def catchL (L : List Fm) : List Fm := match catchAt L with
  | some at_ => L.take at_
  | none => L
def caught (L : List Fm) : Option Fm := (catchAt L).bind fun at_ => L[at_]?

theorem snoc_cases (L : List Fm) : L = [] ∨ ∃ A q, L = A ++ [q] := by
  rcases List.eq_nil_or_concat L with h | ⟨A, q, h⟩
  · exact Or.inl h
  · exact Or.inr ⟨A, q, by simpa using h⟩
theorem topK_nil (k : Int) : topK k [] = none := rfl
theorem topK_snoc (k : Int) (A : List Fm) (q : Fm) : topK k (A ++ [q]) = if q.k = k then some q else none := by simp [topK]
theorem topP_none {p : Fm → Bool} {L : List Fm} (h : ∀ q ∈ L, p q = false) : topP p L = none := by
  unfold topP
  rw [List.findIdx?_eq_none_iff.2 (by simpa using h)]
  rfl
theorem topP_is {p : Fm → Bool} {A : List Fm} {q : Fm} {B : List Fm} (h : p q = true) (hB : ∀ b ∈ B, p b = false) : topP p (A ++ q :: B) = some A.length := by
  have e : (A ++ q :: B).reverse.findIdx? p = some B.length := by
    rw [List.findIdx?_eq_some_iff_getElem]
    refine ⟨by simp, ?_, fun j hj => ?_⟩
    · rw [List.getElem_reverse]
      have : (A ++ q :: B)[(A ++ q :: B).length - 1 - B.length]'(by simp) = q := by
        rw [List.getElem_append_right (by simp)]
        simp
      rw [this]; exact h
    · rw [List.getElem_reverse]
      have hl : (A ++ q :: B).length - 1 - j = A.length + 1 + (B.length - 1 - j) := by simp; omega
      have : (A ++ q :: B)[(A ++ q :: B).length - 1 - j]'(by simp; omega) = B[B.length - 1 - j]'(by omega) := by
        have e2 : (A ++ q :: B)[(A ++ q :: B).length - 1 - j]? = some (B[B.length - 1 - j]'(by omega)) := by
          rw [hl, List.getElem?_append_right (by omega), show A.length + 1 + (B.length - 1 - j) - A.length = (B.length - 1 - j) + 1 by omega, List.getElem?_cons_succ, List.getElem?_eq_getElem (by omega)]
        exact (List.getElem?_eq_some_iff.1 e2).2
      rw [this, hB _ (List.getElem_mem _)]
      simp
  unfold topP
  rw [e]
  simp
theorem top_cases (p : Fm → Bool) (L : List Fm) : (∀ q ∈ L, p q = false) ∨ ∃ A q B, L = A ++ q :: B ∧ p q = true ∧ ∀ b ∈ B, p b = false := by
  induction L with
  | nil => exact Or.inl (by simp)
  | cons x r ih =>
    rcases ih with h | ⟨A, q, B, rfl, h1, h2⟩
    · cases hx : p x with
      | false => exact Or.inl (by simpa [hx] using h)
      | true => exact Or.inr ⟨[], x, r, rfl, hx, h⟩
    · exact Or.inr ⟨x :: A, q, B, rfl, h1, h2⟩
theorem place_none {L : List Fm} (h : ∀ q ∈ L, hides q = false) (i : Int) : placeL i L = none := by unfold placeL; rw [topP_none h]; rfl
theorem place_is {A : List Fm} {q : Fm} {B : List Fm} (h : hides q = true) (hB : ∀ b ∈ B, hides b = false) (i : Int) : placeL i (A ++ q :: B) = if q.k = 4 ∧ 0 ≤ i ∧ i < (q.l.length : Int) then some A.length else none := by
  unfold placeL
  rw [topP_is h hB]
  simp
theorem local_is {A : List Fm} {q : Fm} {B : List Fm} (h : hides q = true) (hB : ∀ b ∈ B, hides b = false) (i : Int) : localL i (A ++ q :: B) = if q.k = 4 ∧ 0 ≤ i ∧ i < (q.l.length : Int) then q.l[i.toNat]? else none := by
  unfold localL
  rw [place_is h hB]
  split <;> simp
theorem local_none {L : List Fm} (h : ∀ q ∈ L, hides q = false) (i : Int) : localL i L = none := by unfold localL; rw [place_none h]; rfl
theorem set_none {L : List Fm} (h : ∀ q ∈ L, hides q = false) (i x : Int) : setL i x L = L := by unfold setL; rw [place_none h]
theorem modify_mid (A : List Fm) (q : Fm) (B : List Fm) (f : Fm → Fm) : (A ++ q :: B).modify A.length f = A ++ f q :: B := by
  induction A with
  | nil => rfl
  | cons x r ih => simpa using ih
theorem set_is {A : List Fm} {q : Fm} {B : List Fm} (h : hides q = true) (hB : ∀ b ∈ B, hides b = false) (i x : Int) : setL i x (A ++ q :: B) = if q.k = 4 ∧ 0 ≤ i ∧ i < (q.l.length : Int) then A ++ { q with l := q.l.set i.toNat x } :: B else A ++ q :: B := by
  unfold setL
  rw [place_is h hB]
  by_cases hc : q.k = 4 ∧ 0 ≤ i ∧ i < (q.l.length : Int)
  · rw [if_pos hc, if_pos hc]
    exact modify_mid A q B _
  · rw [if_neg hc, if_neg hc]
theorem catch_none {L : List Fm} (h : ∀ q ∈ L, isCatch q = false) : catchAt L = none ∧ catchL L = L ∧ caught L = none := by
  have e : catchAt L = none := topP_none h
  refine ⟨e, ?_, ?_⟩
  · unfold catchL; rw [e]
  · unfold caught; rw [e]; rfl
theorem catch_is {A : List Fm} {q : Fm} {B : List Fm} (h : isCatch q = true) (hB : ∀ b ∈ B, isCatch b = false) : catchAt (A ++ q :: B) = some A.length ∧ catchL (A ++ q :: B) = A ∧ caught (A ++ q :: B) = some q := by
  have e : catchAt (A ++ q :: B) = some A.length := topP_is h hB
  refine ⟨e, ?_, ?_⟩
  · unfold catchL; rw [e]; simp
  · unfold caught; rw [e]; simp
/-- The place of the loop with n others above it. -/
theorem loopAt_no {n : Int} {L : List Fm} (h : ¬ (0 ≤ n ∧ n < (L.length : Int))) : loopAt n L = none := by
  unfold loopAt
  rw [if_neg fun hh => h ⟨hh.1, hh.2.1⟩]
theorem loopAt_is {A : List Fm} {q : Fm} {B : List Fm} {n : Int} (hn : n = (B.length : Int)) (h : ∀ b ∈ q :: B, b.k = 3) : loopAt n (A ++ q :: B) = some q := by
  subst hn
  unfold loopAt
  have e : (A ++ q :: B).length - 1 - (B.length : Int).toNat = A.length := by simp
  rw [e, if_pos ⟨by omega, by simp; omega, by simpa using h⟩]
  simp
theorem loopAt_not {A : List Fm} {q : Fm} {B : List Fm} {n : Int} (hn : (B.length : Int) ≤ n) (h : q.k ≠ 3) : loopAt n (A ++ q :: B) = none := by
  unfold loopAt
  refine if_neg fun hh => h ?_
  obtain ⟨h0, h1, h2⟩ := hh
  refine h2 q ?_
  have hle : (A ++ q :: B).length - 1 - n.toNat ≤ A.length := by simp; omega
  rw [List.drop_append_of_le_length hle]
  simp
end Go.Proofs.Ytacmidlhfcnkiaa
