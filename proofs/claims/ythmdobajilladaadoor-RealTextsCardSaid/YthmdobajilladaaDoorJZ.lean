/- The document's answers for layer 4: when a number of digits and a place has a cell. No condition. The document's answers for layer 4: the number of a text, case by case; where its letter p is. No condition. The document's answers for layer 4: pieces of a text as lists. No condition. -/
import Derived.Test.YthmdobajilladaaDoorR4Z
namespace Go.Proofs.YthmdobajilladaaDoor
open Go.RowKit Ieee
set_option linter.unusedVariables false

theorem cutF_ends : ∀ (f P : Nat) (e : Int) (m : Bool), P + (-1075 - e).toNat ≤ f → ∃ P' e' m', cutF f P e m = (P', e', m') ∧ P' < 18014398509481984 ∧ -1075 ≤ e'
  | 0, P, e, m, h => ⟨P, e, m, rfl, by omega, by omega⟩
  | f + 1, P, e, m, h => by
    by_cases c : 18014398509481984 ≤ P ∨ e < -1075
    · rw [cutF_go f P e m c]
      exact cutF_ends f _ _ _ (by omega)
    · rw [cutF_stop _ _ _ _ c]
      exact ⟨P, e, m, rfl, by omega, by omega⟩
theorem cutR_form (s : Bool) (P : Nat) (e : Int) (m : Bool) (h : P < 18014398509481984) (k : -1075 ≤ e) : ∃ r, r ≤ 9218868437227405312 ∧ cutR s (P, e, m) = double.word s r := by
  have hm : ∃ m1, (if P % 2 = 1 ∧ (m = true ∨ P / 2 % 2 = 1) then P / 2 + 1 else P / 2) = m1 ∧ m1 ≤ 9007199254740992 := ⟨_, rfl, by split <;> omega⟩
  obtain ⟨m1, e1, hm1⟩ := hm
  unfold cutR
  simp only [e1]
  by_cases c : 9007199254740992 ≤ m1
  · simp only [if_pos c]
    split
    · exact ⟨_, Nat.le_refl _, rfl⟩
    · split
      · exact ⟨_, by omega, rfl⟩
      · exact ⟨_, by omega, rfl⟩
  · simp only [if_neg c]
    split
    · exact ⟨_, Nat.le_refl _, rfl⟩
    · split
      · exact ⟨_, by omega, rfl⟩
      · exact ⟨_, by omega, rfl⟩
theorem top_form (s : Bool) (m : Nat) (p : Int) : ∃ r, r ≤ 9218868437227405312 ∧ cutR s (topF m p) = double.word s r := by
  obtain ⟨P, e, b, h1, h2, h3⟩ := cutF_ends _ (m * 2 ^ topJ m) (p - (topJ m : Int)) false (Nat.le_refl _)
  unfold topF
  rw [h1]
  exact cutR_form s P e b h2 h3
theorem eqv_odd {m : Nat} {p : Int} {M : Nat} {E : Int} {N : Nat} {F : Int} (h : HalfInv m p N F) (g : HalfInv M E N F) : Eqv m p M E := by
  obtain ⟨_, _, i, a, b⟩ := h
  obtain ⟨_, _, j, c, d⟩ := g
  rcases Nat.le_total i j with k | k
  · obtain ⟨q, rfl⟩ : ∃ q, j = i + q := ⟨j - i, by omega⟩
    exact Or.inr ⟨q, by rw [c, a, Nat.pow_add, Nat.mul_assoc], by omega⟩
  · obtain ⟨q, rfl⟩ : ∃ q, i = j + q := ⟨i - j, by omega⟩
    exact Or.inl ⟨q, by rw [c, a, Nat.pow_add, Nat.mul_assoc], by omega⟩
theorem odd_eqv {m : Nat} {p : Int} {M : Nat} {E : Int} {N N' : Nat} {F F' : Int} (e : Eqv m p M E) (h : HalfInv m p N F) (g : HalfInv M E N' F') (o : ¬ N % 2 = 0) (o' : ¬ N' % 2 = 0) : N' = N ∧ F' = F := by
  obtain ⟨_, _, i, a, b⟩ := h
  obtain ⟨_, _, j, c, d⟩ := g
  rcases e with ⟨k, x, y⟩ | ⟨k, x, y⟩
  · rw [a, c, Nat.mul_assoc, ← Nat.pow_add] at x
    obtain ⟨u, v⟩ := odd_unique i (j + k) N N' (by omega) (by omega) x
    exact ⟨u.symm, by omega⟩
  · rw [a, c, Nat.mul_assoc, ← Nat.pow_add] at x
    obtain ⟨u, v⟩ := odd_unique j (i + k) N' N (by omega) (by omega) x
    exact ⟨u, by omega⟩
/-- There and back gives the number again. -/
def okF (u : Nat) (p : Int) : Bool := double.order (ldW (ldW (ofF (u : Int)) p) (-p)) (ofF (u : Int)) == some .eq
theorem okF_yes {u : Nat} (h0 : u ≠ 0) (h : u ≤ 9007199254740992) {p : Int} (k : okF u p = true) : ∃ M E, Can M E ∧ Eqv u p M E ∧ ldW (ofF (u : Int)) p = rung M E := by
  unfold okF at k
  rw [ld_of u h0 h p] at k ⊢
  exact ld_back u h0 h p k (nearest_le _ _)
theorem okF_of {u : Nat} (h0 : u ≠ 0) (h : u ≤ 9007199254740992) {p : Int} {M : Nat} {E : Int} (c : Can M E) (e : Eqv u p M E) : okF u p = true := by
  obtain ⟨a, b⟩ := ld_exact u h0 h p c e
  unfold okF
  rw [a, b, order_eq (ofF_le u)]
  rfl
theorem top_big {u : Nat} (h0 : u ≠ 0) (h : u ≤ 9007199254740992) : 9007199254740992 ≤ u * 2 ^ topJ u := by
  have a := Nat.log2_self_le h0
  have hl : u.log2 < 54 := (Nat.log2_lt h0).2 (Nat.lt_of_le_of_lt h (by decide))
  have e : (2 : Nat) ^ 124 = 2 ^ u.log2 * 2 ^ topJ u := by
    rw [← Nat.pow_add]; congr 1; unfold topJ; omega
  have b := Nat.mul_le_mul_right (2 ^ topJ u) a
  rw [← e] at b
  exact Nat.le_trans (by decide) b
/-- Where the format has the number, the rounded cell is its own. -/
theorem top_yes (s : Bool) {u : Nat} (h0 : u ≠ 0) (h : u ≤ 9007199254740992) {p : Int} {M : Nat} {E : Int} (c : Can M E) (e : Eqv u p M E) : cutR s (topF u p) = double.word s (rung M E) := by
  unfold topF
  exact cut_exact s c _ _ _ (eqv_trans (Or.inl ⟨topJ u, rfl, rfl⟩) e) (Nat.le_refl _) (top_big h0 h)
/-- What the document's comparison tells. -/
theorem same_odd (s : Bool) {u : Nat} (h0 : u ≠ 0) (h : u ≤ 9007199254740992) {p : Int} {r : Nat} (hr : r < 9218868437227405312) (hw : cutR s (topF u p) = double.word s r) {N N' : Nat} {F F' : Int} (a : HalfInv u p N F) (b : HalfInv (rM r) (rE r) N' F') (o : ¬ N % 2 = 0) (o' : ¬ N' % 2 = 0) :
    (N' = N ∧ F' = F) ↔ okF u p = true := by
  constructor
  · rintro ⟨rfl, rfl⟩
    exact okF_of h0 h (rung_can hr) (eqv_odd a b)
  · intro k
    obtain ⟨M, E, c, e, _⟩ := okF_yes h0 h k
    have t := top_yes s h0 h c e
    rw [hw] at t
    have q : r = rung M E := by
      have hl := rung_lt c
      rw [word_d, word_d] at t
      cases s <;> simp at t <;> omega
    refine odd_eqv ?_ a b o o'
    rw [q, rM_rung c, rE_rung c]
    exact e
theorem zero_no (s : Bool) {u : Nat} (h0 : u ≠ 0) (h : u ≤ 9007199254740992) {p : Int} {r : Nat} (hr : r = 0 ∨ r = 9218868437227405312) (hw : cutR s (topF u p) = double.word s r) : okF u p = false := by
  rw [Bool.eq_false_iff]
  intro k
  obtain ⟨M, E, c, e, _⟩ := okF_yes h0 h k
  have t := top_yes s h0 h c e
  have hM := eqv_zero e h0
  have hl := rung_lt c
  have hp : rung M E ≠ 0 := by unfold rung; have := c.lo; omega
  rw [hw, word_d, word_d] at t
  cases s <;> simp at t <;> omega
theorem neg_word (s : Bool) (r : Nat) (h : r < 9223372036854775808) : (if s then negW r else r) = double.word s r := by
  cases s
  · rw [word_f, if_neg (by decide)]
  · rw [if_pos rfl]
    have := xor_sign false r h
    rw [word_f] at this
    unfold negW
    rw [this]; rfl
/-- The number that a text is, by the rounded cell. -/
theorem num_top (s : Bool) {u : Nat} (h0 : u ≠ 0) (h : u ≤ 9007199254740992) {p : Int} (k : okF u p = true) : (if s then negW (ldW (ofF (u : Int)) p) else ldW (ofF (u : Int)) p) = cutR s (topF u p) := by
  obtain ⟨M, E, c, e, y⟩ := okF_yes h0 h k
  have hl := rung_lt c
  have n := neg_word s (rung M E) (by omega)
  rw [top_yes s h0 h c e, ← n]
  generalize ldW (ofF (u : Int)) p = z at *
  rw [y]
end Go.Proofs.YthmdobajilladaaDoor

namespace Go.Proofs.YthmdobajilladaaDoor
open Go.RowKit Ieee
set_option linter.unusedVariables false

theorem spl_at : ∀ (l : List UInt8) (k : Nat), (∀ j, j < k → l[j]? ≠ some 112) → l[k]? = some 112 → spl l = (l.take k, l.drop (k + 1))
  | [], k, _, h => by simp at h
  | b :: l, 0, _, h => by
    have : b = 112 := by simpa using h
    subst this
    unfold spl; rw [if_pos rfl]; rfl
  | b :: l, k + 1, g, h => by
    have hb : b ≠ 112 := fun q => g 0 (by omega) (by rw [q]; rfl)
    have e := spl_at l k (fun j hj => by have := g (j + 1) (by omega); simpa using this) (by simpa using h)
    unfold spl
    rw [if_neg hb, e]; rfl
theorem spl_none : ∀ (l : List UInt8), (∀ j, j < l.length → l[j]? ≠ some 112) → spl l = (l, [])
  | [], _ => rfl
  | b :: l, g => by
    have hb : b ≠ 112 := fun q => g 0 (by simp) (by rw [q]; rfl)
    have e := spl_none l (fun j hj => by have := g (j + 1) (by simp; omega); simpa using this)
    unfold spl
    rw [if_neg hb, e]
theorem digs_nil (k : Nat) : digs [] k = none := by unfold digs; rw [if_neg (fun z => z.1 rfl)]
/-- A text without the letter p is no number. -/
theorem numR_nop (l : List UInt8) (h : numB l = []) : numR l = (0, false) := by
  unfold numR
  rw [h, show unMinus [] = [] from rfl, digs_nil]
  cases digs (numA l) 16 <;> rfl
theorem numR_badA (l : List UInt8) (h : digs (numA l) 16 = none) : numR l = (0, false) := by
  unfold numR
  rw [h]
theorem numR_badB (l : List UInt8) (h : digs (unMinus (numB l)) 4 = none) : numR l = (0, false) := by
  unfold numR
  rw [h]
  cases digs (numA l) 16 <;> rfl
theorem numR_big (l : List UInt8) {u v : Nat} (h : digs (numA l) 16 = some u) (g : digs (unMinus (numB l)) 4 = some v) (c : ¬ u ≤ 9007199254740992) : numR l = (0, false) := by
  unfold numR
  rw [h, g]
  simp only
  rw [if_neg c]
theorem numR_at (l : List UInt8) {u v : Nat} (h : digs (numA l) 16 = some u) (g : digs (unMinus (numB l)) 4 = some v) (c : u ≤ 9007199254740992) :
    numR l = if okF u (numP l v) then (cellOf (if isMinus l then negW (ldW (ofF (u : Int)) (numP l v)) else ldW (ofF (u : Int)) (numP l v)), true) else (0, false) := by
  have e : numOk l u v = okF u (numP l v) := rfl
  have f : numY l u v = ldW (ofF (u : Int)) (numP l v) := rfl
  unfold numR
  rw [h, g]
  simp only
  rw [if_pos c, e, f]
theorem ofF_z : ofF ((0 : Nat) : Int) = 0 := by decide +kernel
theorem ldW_z (p : Int) : ldW 0 p = 0 := by unfold ldW; rw [if_pos rfl]
theorem okF_z (p : Int) : okF 0 p = true := by
  unfold okF
  generalize hx : ofF ((0 : Nat) : Int) = x
  rw [ofF_z] at hx
  subst hx
  rw [ldW_z, ldW_z, order_eq (by decide)]; rfl
theorem ld_z (p : Int) : ldW (ofF ((0 : Nat) : Int)) p = 0 := by
  generalize hx : ofF ((0 : Nat) : Int) = x
  rw [ofF_z] at hx
  subst hx
  exact ldW_z p
theorem numR_zero (l : List UInt8) {v : Nat} (h : digs (numA l) 16 = some 0) (g : digs (unMinus (numB l)) 4 = some v) : numR l = (cellOf (double.word (isMinus l) 0), true) := by
  have n := neg_word (isMinus l) 0 (by decide)
  have a := numR_at l h g (Nat.zero_le _)
  have ok := okF_z (numP l v)
  have y := ld_z (numP l v)
  generalize ldW (ofF ((0 : Nat) : Int)) (numP l v) = z at *
  subst y
  rw [ok, if_pos rfl, n] at a
  exact a
theorem numR_top (l : List UInt8) {u v : Nat} (h : digs (numA l) 16 = some u) (g : digs (unMinus (numB l)) 4 = some v) (c : u ≤ 9007199254740992) (h0 : u ≠ 0) :
    numR l = if okF u (numP l v) then (cellOf (cutR (isMinus l) (topF u (numP l v))), true) else (0, false) := by
  rw [numR_at l h g c]
  cases k : okF u (numP l v)
  · rw [if_neg (by decide), if_neg (by decide)]
  · have n := num_top (isMinus l) h0 c k
    generalize ldW (ofF (u : Int)) (numP l v) = z at *
    rw [if_pos rfl, if_pos rfl, n]
end Go.Proofs.YthmdobajilladaaDoor

namespace Go.Proofs.YthmdobajilladaaDoor
open Go.RowKit
set_option linter.unusedVariables false

theorem bs_ext {a b : ByteArray} (h : a.data.toList = b.data.toList) : a = b := by
  cases a; cases b
  simp only [ByteArray.mk.injEq]
  exact Array.toList_inj.1 h
theorem bs_drop (l : List UInt8) (k : Nat) : (bs l).extract k (bs l).size = bs (l.drop k) := by
  apply bs_ext
  rw [ByteArray.data_extract, size_list]
  simp
  exact List.take_of_length_le (by rw [List.length_drop]; exact Nat.le_refl _)
theorem bs_take (l : List UInt8) (k : Nat) : (bs l).extract 0 k = bs (l.take k) := by
  apply bs_ext
  rw [ByteArray.data_extract]
  simp
theorem bs_at (l : List UInt8) (k : Nat) (h : k < (bs l).size) : l[k]? = some (bs l)[k] := by
  have h2 : k < l.length := by rw [size_list] at h; exact h
  rw [List.getElem?_eq_getElem h2]
  rfl
theorem bs_is (l : List UInt8) (k : Nat) (h : k < (bs l).size) (c : UInt8) (b : Bool) (hb : (l[k]? == some c) = b) : ((((bs l)[k].toNat : Nat) : Int) == ((c.toNat : Nat) : Int)) = b := by
  rw [← hb, bs_at l k h, Bool.eq_iff_iff, beq_iff_eq, beq_iff_eq]
  constructor
  · intro q; rw [UInt8.toNat_inj.1 (Int.ofNat_inj.1 q)]
  · intro q; injection q with q; rw [q]
end Go.Proofs.YthmdobajilladaaDoor
