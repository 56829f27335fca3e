/- Layer 8: an input among the call's own blocks: a block of a slice and a number, a row of sources. Plain words on worlds and lists. No condition. -/
import Derived.Test.YtmbcjphgjdffmaaS7B
namespace Go.Proofs.Ytmbcjphgjdffmaa
open Go.RowKit
set_option linter.unusedVariables false

abbrev Pt (p : Nat) : Value := .pointer (some ⟨p, 0, none⟩)
/-- A source: its text, the place at which it is read, its number. -/
structure Sc where
  t : List UInt8
  i : Nat
  n : Nat
def flat (x : Sc) : List Value := [.string (str x.t), .int .i64 (x.i : Int), .int .i64 (x.n : Int)]
def flats (L : List Sc) : List Value := L.flatMap flat
theorem flats_len (L : List Sc) : (flats L).length = L.length * 3 := by
  induction L with
  | nil => rfl
  | cons x r ih => simp only [flats, List.flatMap_cons, List.length_append] at ih ⊢; rw [ih]; simp [flat]; omega
theorem flats_app (A B : List Sc) : flats (A ++ B) = flats A ++ flats B := by simp [flats]
theorem flats_one (x : Sc) : flats [x] = flat x := by simp [flats]
theorem flats_get (B : List Sc) (x : Sc) (C : List Sc) (k : Nat) (hk : k < 3) : (flats (B ++ x :: C))[B.length * 3 + k]? = (flat x)[k]? := by
  have e : flats (B ++ x :: C) = flats B ++ (flat x ++ flats C) := by simp [flats]
  rw [e, List.getElem?_append_right (by rw [flats_len]; omega), flats_len, Nat.add_sub_cancel_left, List.getElem?_append_left (by simp [flat]; omega)]
theorem flats_set (B : List Sc) (x : Sc) (j : Nat) : (flats (B ++ [x])).set (B.length * 3 + 1) (.int .i64 (j : Int)) = flats (B ++ [{ x with i := j }]) := by
  rw [flats_app, flats_app, List.set_append_right _ _ (by rw [flats_len]; omega), flats_len, Nat.add_sub_cancel_left, flats_one, flats_one]
  rfl
theorem flats_take (L : List Sc) (n : Nat) : (flats L).take (n * 3) = flats (L.take n) := by
  induction L generalizing n with
  | nil => simp [flats]
  | cons x r ih =>
    cases n with
    | zero => simp [flats]
    | succ n =>
      have e : flats (x :: r) = flat x ++ flats r := by simp [flats]
      have e2 : flats (x :: r.take n) = flat x ++ flats (r.take n) := by simp [flats]
      rw [e, List.take_succ_cons, e2, ← ih, List.take_append]
      have h3 : (flat x).length = 3 := rfl
      rw [h3, List.take_of_length_le (by rw [h3]; omega), show (n + 1) * 3 - 3 = n * 3 by omega]
theorem flats_cells (L : List Sc) : ∀ u ∈ flats L, u.oneCell' = true := fun u hu => by
  obtain ⟨x, _, hx⟩ := List.mem_flatMap.1 hu
  simp [flat] at hx
  rcases hx with rfl | rfl | rfl <;> rfl
/-- Block p of w is an input whose row of sources is v: the sources L, of M that were opened. -/
structure InpV (w : World) (p : Nat) (v : Value) (L : List Sc) (M : Nat) : Prop where
  c0 : w.cell? ⟨p, 0, none⟩ = some v
  c1 : w.cell? ⟨p, 1, none⟩ = some (.int .i64 (M : Int))
  f : ∀ i, w.frozen? ⟨p, i, none⟩ = false
  lp : p < w.heap.size
  row : w.ownsRow 0 50 3 v L.length (flats L)
  sep : v.ownBlock ≠ some p
  ok : ∀ x ∈ L, x.i ≤ x.t.length ∧ x.t.length ≤ 1000
  dep : L.length ≤ 8
/-- The same, with the blocks S that are its own. -/
def Inp (w : World) (p : Nat) (S : List Nat) (L : List Sc) (M : Nat) : Prop := ∃ v, InpV w p v L M ∧ S = p :: v.ownBlock.toList
theorem InpV.lt {w : World} {p : Nat} {v : Value} {L : List Sc} {M : Nat} (h : InpV w p v L M) : ∀ x ∈ p :: v.ownBlock.toList, x < w.heap.size := fun x hx => by
  rcases List.mem_cons.1 hx with rfl | hx
  · exact h.lp
  · exact (h.row.lt x (by simpa using hx)).2
theorem Inp.lt {w : World} {p : Nat} {S : List Nat} {L : List Sc} {M : Nat} (h : Inp w p S L M) : ∀ x ∈ S, x < w.heap.size := by
  obtain ⟨v, h, rfl⟩ := h
  exact h.lt
theorem row_mod {w w' : World} {S : List Nat} {e : TypeId} {k : Nat} {v : Value} {n : Nat} {xs : List Value} (h : w.ownsRow 0 e k v n xs) (m : Mod S w w') (hS : ∀ g, v.ownBlock = some g → g ∉ S) : w'.ownsRow 0 e k v n xs := by
  refine ⟨h.1, h.2.elim Or.inl fun ⟨g, cap, cur, h1, h2, h3, h4⟩ => Or.inr ⟨g, cap, cur, h1, h2, ?_, h4⟩⟩
  subst h1
  rw [m.block g (Array.getElem?_eq_some_iff.1 h3).1 (hS g rfl)]
  exact h3
theorem InpV.mod {w w' : World} {S : List Nat} {p : Nat} {v : Value} {L : List Sc} {M : Nat} (h : InpV w p v L M) (m : Mod S w w') (hS : ∀ x ∈ p :: v.ownBlock.toList, x ∉ S) : InpV w' p v L M :=
  have hp : p ∉ S := hS p (by simp)
  ⟨m.cell hp h.c0, m.cell hp h.c1, fun i => (m.frozen hp h.lp).trans (h.f i), Nat.lt_of_lt_of_le h.lp m.size, row_mod h.row m fun g hg => hS g (by simp [hg]), h.sep, h.ok, h.dep⟩
theorem Inp.mod {w w' : World} {S T : List Nat} {p : Nat} {L : List Sc} {M : Nat} (h : Inp w p T L M) (m : Mod S w w') (hS : ∀ x ∈ T, x ∉ S) : Inp w' p T L M := by
  obtain ⟨v, h, rfl⟩ := h
  exact ⟨v, h.mod m hS, rfl⟩
theorem Inp.far {w w' : World} {T : List Nat} {p : Nat} {L : List Sc} {M : Nat} (h : Inp w p T L M) (m : Mod [] w w') : Inp w' p T L M := h.mod m (by simp)
/-- From w to w' blocks of S turned, and new ones; what was S is S' then. -/
def Turn (S S' : List Nat) (w w' : World) : Prop := Mod S w w' ∧ ∀ x ∈ S', x ∈ S ∨ w.heap.size ≤ x
theorem Turn.refl (S : List Nat) (w : World) : Turn S S w w := ⟨Mod.refl S w, fun x h => Or.inl h⟩
theorem Turn.of {S : List Nat} {w w' : World} (h : Mod S w w') : Turn S S w w' := ⟨h, fun x h => Or.inl h⟩
theorem Turn.trans {S T U : List Nat} {a b c : World} (h : Turn S T a b) (k : Turn T U b c) : Turn S U a c :=
  ⟨h.1.then k.1 h.2, fun x hx => (k.2 x hx).elim (h.2 x) fun hl => Or.inr (Nat.le_trans h.1.size hl)⟩
theorem Turn.far {S T : List Nat} {a b c : World} (h : Turn S T a b) (k : Mod [] b c) : Turn S T a c := ⟨h.1.far k, h.2⟩
/-- What lies in blocks of its own that are none of these stays so. -/
theorem Turn.apart {S T : List Nat} {a b : World} (h : Turn S T a b) {U : List Nat} (hU : ∀ x ∈ U, x < a.heap.size) (hd : ∀ x ∈ U, x ∉ S) : ∀ x ∈ U, x ∉ T := fun x hx ht => (h.2 x ht).elim (hd x hx) fun hl => by have := hU x hx; omega
/-- What the row is. -/
theorem InpV.opened {w : World} {p : Nat} {v : Value} {L : List Sc} {M : Nat} (h : InpV w p v L M) : ∃ A cap, v = .slice A L.length cap := by
  rcases h.row.2 with ⟨rfl, h0⟩ | ⟨g, cap, cur, rfl, _⟩
  · exact ⟨none, 0, by rw [h0]⟩
  · exact ⟨_, _, rfl⟩
theorem InpV.top {w : World} {p : Nat} {v : Value} {B : List Sc} {x : Sc} {M : Nat} (h : InpV w p v (B ++ [x]) M) :
    ∃ g cap, v = .slice (some ⟨g, 0, none⟩) (B.length + 1) cap ∧ g ≠ p ∧ g < w.heap.size ∧ w.cell? ⟨g, B.length * 3, none⟩ = some (.string (str x.t)) ∧ w.cell? ⟨g, B.length * 3 + 1, none⟩ = some (.int .i64 (x.i : Int)) ∧ w.cell? ⟨g, B.length * 3 + 2, none⟩ = some (.int .i64 (x.n : Int)) ∧ ∀ j, w.frozen? ⟨g, j, none⟩ = false := by
  have hrow := h.row
  rcases h.row.2 with ⟨_, h0⟩ | ⟨g, cap, cur, rfl, _, hg, _⟩
  · simp at h0
  · have hl : (B ++ [x]).length = B.length + 1 := by simp
    have get : ∀ k, k < 3 → w.cell? ⟨g, B.length * 3 + k, none⟩ = (flat x)[k]? := fun k hk => by
      rw [hrow.cellAt (B.length * 3 + k) (by rw [hl]; omega), flats_get B x [] k hk]
    refine ⟨g, cap, by rw [hl], fun e => h.sep (by rw [e]; rfl), (Array.getElem?_eq_some_iff.1 hg).1, get 0 (by omega), get 1 (by omega), get 2 (by omega), hrow.frozenAt⟩
/-- The place of the last source, set. -/
theorem InpV.set {w : World} {p g n cap : Nat} {B : List Sc} {x : Sc} {M : Nat} (h : InpV w p (.slice (some ⟨g, 0, none⟩) n cap) (B ++ [x]) M) (j : Nat) (hj : j ≤ x.t.length) :
    InpV (w.setCell ⟨g, B.length * 3 + 1, none⟩ (.int .i64 (j : Int))) p (.slice (some ⟨g, 0, none⟩) n cap) (B ++ [{ x with i := j }]) M ∧ Mod [g] w (w.setCell ⟨g, B.length * 3 + 1, none⟩ (.int .i64 (j : Int))) := by
  have hne : g ≠ p := fun e => h.sep (by rw [e]; rfl)
  have hm : Mod [g] w (w.setCell ⟨g, B.length * 3 + 1, none⟩ (.int .i64 (j : Int))) := (Mod.refl [g] w).set (x := ⟨g, B.length * 3 + 1, none⟩) (Or.inl (by simp)) _
  have hp : p ∉ [g] := by simpa using hne.symm
  have hn : n = (B ++ [x]).length := by
    obtain ⟨A, c, e⟩ := h.opened
    injection e
  subst hn
  refine ⟨⟨hm.cell hp h.c0, hm.cell hp h.c1, fun i => (hm.frozen hp h.lp).trans (h.f i), Nat.lt_of_lt_of_le h.lp hm.size, ?_, h.sep, ?_, by simpa using h.dep⟩, hm⟩
  · have := (h.row.stored (B.length * 3 + 1) (.int .i64 (j : Int))).1
    rw [flats_set] at this
    simpa using this
  · intro y hy
    rcases List.mem_append.1 hy with hy | hy
    · exact h.ok y (List.mem_append.2 (Or.inl hy))
    · obtain rfl : y = { x with i := j } := by simpa using hy
      exact ⟨hj, (h.ok x (by simp)).2⟩
end Go.Proofs.Ytmbcjphgjdffmaa
