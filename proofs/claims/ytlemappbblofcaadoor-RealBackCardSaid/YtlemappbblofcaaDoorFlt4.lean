/- Binary64: whole numbers of at most 53 bits: sums, differences, products, order, halves. No condition. -/
import Derived.Test.YtlemappbblofcaaDoorFlt3
import Derived.Laws.Cover2
import Derived.Laws.FloatArith
namespace Go.Proofs.YtlemappbblofcaaDoor
open Ieee
set_option linter.unusedVariables false

def ofF (n : Int) : Nat := floatOfInt .f64 n
theorem ofF_is (n : Int) : ofF n = double.nearest (decide (n < 0)) n.natAbs 0 := rfl
theorem read_of (x : Int) (h : x.natAbs < 9007199254740992) : ∃ k : Nat, double.read (ofF x) = .number (decide (x < 0)) (x.natAbs * 2 ^ k) (-(k : Int)) ∧ x.natAbs * 2 ^ k < 9007199254740992 := by
  rw [ofF_is]
  by_cases h0 : x.natAbs = 0
  · have e : x = 0 := by omega
    subst e
    obtain ⟨k, hk⟩ : ∃ k : Nat, -(k : Int) = -1074 := ⟨1074, rfl⟩
    refine ⟨k, ?_⟩
    rw [hk]
    have hc : Can 0 (-1074) := ⟨by decide, by decide, by decide, Or.inr rfl⟩
    have := read_can false hc
    rw [show rung 0 (-1074) = 0 from rfl] at this
    have z : ∀ k : Nat, (0 : Int).natAbs * 2 ^ k = 0 := fun k => by rw [Int.natAbs_zero, Nat.zero_mul]
    rw [z, Int.natAbs_zero, nearest_zero]
    exact ⟨this, by decide⟩
  · obtain ⟨k, hk⟩ := can_of x.natAbs 0 h0 h (by decide) (by decide)
    refine ⟨k, ?_⟩
    have e : (0 : Int) - (k : Int) = -(k : Int) := by omega
    rw [e] at hk
    rw [nearest_can _ hk (Nat.mul_ne_zero h0 (pow_ne k)) (Or.inr ⟨k, rfl, by omega⟩), read_can _ hk]
    exact ⟨rfl, hk.lt⟩
theorem signed_of (x : Int) (k u : Nat) : signed (decide (x < 0)) (x.natAbs * 2 ^ k) u = x * 2 ^ (k + u) := by
  unfold signed
  rw [Nat.shiftLeft_eq, Nat.mul_assoc, ← Nat.pow_add]
  have c : ((x.natAbs * 2 ^ (k + u) : Nat) : Int) = (x.natAbs : Int) * 2 ^ (k + u) := by rw [Int.natCast_mul, Int.natCast_pow]; rfl
  rw [c]
  by_cases h : x < 0
  · rw [decide_eq_true h, if_pos rfl, show (x.natAbs : Int) = -x by omega, Int.neg_mul, Int.neg_neg]
  · rw [decide_eq_false h, if_neg (by decide), show (x.natAbs : Int) = x by omega]
theorem signed_of_neg (x : Int) (k u : Nat) : signed (!decide (x < 0)) (x.natAbs * 2 ^ k) u = -(x * 2 ^ (k + u)) := by
  rw [← signed_of x k u]
  unfold signed
  cases decide (x < 0) <;> simp
theorem pow_int_pos (k : Nat) : (0 : Int) < 2 ^ k := Int.pow_pos (by decide)
theorem scale_sign (x : Int) (k : Nat) : decide (x * 2 ^ k < 0) = decide (x < 0) := by
  have p := pow_int_pos k
  apply decide_eq_decide.2
  constructor
  · intro h
    apply Int.not_le.1
    intro hx
    exact Int.not_le.2 h (Int.mul_nonneg hx (Int.le_of_lt p))
  · intro h
    exact Int.mul_neg_of_neg_of_pos h p
theorem scale_abs (x : Int) (k : Nat) : (x * 2 ^ k).natAbs = x.natAbs * 2 ^ k := by
  rw [Int.natAbs_mul, Int.natAbs_pow]; rfl
theorem scale_zero (x : Int) (k : Nat) : x * 2 ^ k = 0 ↔ x = 0 := by
  have p := pow_int_pos k
  rw [Int.mul_eq_zero]
  constructor
  · rintro (h | h)
    · exact h
    · omega
  · exact Or.inl
/-- What is written of a whole number that is scaled. -/
theorem write_scaled (t : Int) (K : Nat) (z : Bool) (hz : t = 0 → z = false) :
    double.write (.number (if t * 2 ^ K = 0 then z else decide (t * 2 ^ K < 0)) (t * 2 ^ K).natAbs (-(K : Int))) = ofF t := by
  show double.nearest _ _ _ = _
  rw [ofF_is, scale_abs]
  by_cases h : t = 0
  · subst h
    rw [hz rfl]
    simp [nearest_zero]
  · rw [if_neg (fun q => h ((scale_zero t K).1 q)), scale_sign]
    have := nearest_shift (decide (t < 0)) t.natAbs K 0 (by omega)
    rw [show (0 : Int) - (K : Int) = -(K : Int) by omega] at this
    exact this
theorem base_neg (k j : Nat) : min (-(k : Int)) (-(j : Int)) = -((max k j : Nat) : Int) := by omega
theorem up_k (k j : Nat) : k + (-(k : Int) - -((max k j : Nat) : Int)).toNat = max k j := by omega
theorem up_j (k j : Nat) : j + (-(j : Int) - -((max k j : Nat) : Int)).toNat = max k j := by omega
theorem add_of (x y : Int) (hx : x.natAbs < 9007199254740992) (hy : y.natAbs < 9007199254740992) : double.add (ofF x) (ofF y) = some (ofF (x + y)) := by
  obtain ⟨k, rx, _⟩ := read_of x hx
  obtain ⟨j, ry, _⟩ := read_of y hy
  unfold Format.add
  rw [rx, ry]
  simp only [Datum.sum, Option.map_some]
  rw [base_neg, signed_of, signed_of, up_k, up_j, ← Int.add_mul]
  congr 1
  exact write_scaled (x + y) _ _ (by
    intro h
    by_cases a : x < 0
    · rw [decide_eq_false (show ¬ y < 0 by omega)]; simp
    · rw [decide_eq_false a]; rfl)
theorem sub_of (x y : Int) (hx : x.natAbs < 9007199254740992) (hy : y.natAbs < 9007199254740992) : double.sub (ofF x) (ofF y) = some (ofF (x - y)) := by
  obtain ⟨k, rx, _⟩ := read_of x hx
  obtain ⟨j, ry, _⟩ := read_of y hy
  unfold Format.sub
  rw [rx, ry]
  simp only [Datum.opposite, Datum.sum, Option.map_some]
  rw [base_neg, signed_of, signed_of_neg, up_k, up_j, ← Int.sub_eq_add_neg, ← Int.sub_mul]
  congr 1
  exact write_scaled (x - y) _ _ (by
    intro h
    have e : x = y := by omega
    subst e
    cases decide (x < 0) <;> rfl)
theorem mul_of (x y : Int) (hx : x.natAbs < 9007199254740992) (hy : y.natAbs < 9007199254740992) (h0 : x ≠ 0) (h1 : y ≠ 0) : double.mul (ofF x) (ofF y) = some (ofF (x * y)) := by
  obtain ⟨k, rx, _⟩ := read_of x hx
  obtain ⟨j, ry, _⟩ := read_of y hy
  unfold Format.mul
  rw [rx, ry]
  simp only [Datum.product, Option.map_some]
  congr 1
  show double.nearest _ _ _ = _
  rw [ofF_is, Int.natAbs_mul]
  have e : x.natAbs * 2 ^ k * (y.natAbs * 2 ^ j) = x.natAbs * y.natAbs * 2 ^ (k + j) := by
    rw [Nat.pow_add, Nat.mul_assoc, Nat.mul_left_comm (2 ^ k), ← Nat.mul_assoc]
  have s : (decide (x < 0) ^^ decide (y < 0)) = decide (x * y < 0) := by
    by_cases a : x < 0
    · by_cases b : y < 0
      · rw [decide_eq_true a, decide_eq_true b, decide_eq_false (Int.not_lt.2 (Int.le_of_lt (Int.mul_pos_of_neg_of_neg a b)))]; rfl
      · rw [decide_eq_true a, decide_eq_false b, decide_eq_true (Int.mul_neg_of_neg_of_pos a (by omega))]; rfl
    · by_cases b : y < 0
      · rw [decide_eq_false a, decide_eq_true b, decide_eq_true (Int.mul_neg_of_pos_of_neg (by omega) b)]; rfl
      · rw [decide_eq_false a, decide_eq_false b, decide_eq_false (Int.not_lt.2 (Int.mul_nonneg (by omega) (by omega)))]; rfl
  rw [e, s]
  have := nearest_shift (decide (x * y < 0)) (x.natAbs * y.natAbs) (k + j) 0 (Nat.mul_ne_zero (by omega) (by omega))
  rw [show (0 : Int) - ((k + j : Nat) : Int) = -(k : Int) + -(j : Int) by omega] at this
  exact this
theorem cmp_scale (x y : Int) (K : Nat) : compare (x * 2 ^ K) (y * 2 ^ K) = compare x y := by
  have p := pow_int_pos K
  rcases Int.lt_trichotomy x y with h | h | h
  · rw [Int.compare_eq_lt.2 h, Int.compare_eq_lt.2 (Int.mul_lt_mul_of_pos_right h p)]
  · subst h; simp
  · rw [Int.compare_eq_gt.2 h, Int.compare_eq_gt.2 (Int.mul_lt_mul_of_pos_right h p)]
theorem order_of (x y : Int) (hx : x.natAbs < 9007199254740992) (hy : y.natAbs < 9007199254740992) : double.order (ofF x) (ofF y) = some (compare x y) := by
  obtain ⟨k, rx, _⟩ := read_of x hx
  obtain ⟨j, ry, _⟩ := read_of y hy
  unfold Format.order
  rw [rx, ry]
  simp only [Datum.order]
  rw [base_neg, signed_of, signed_of, up_k, up_j, cmp_scale]
/-- Half of a whole number. -/
def halfF (x : Int) : Nat := double.nearest (decide (x < 0)) x.natAbs (-1)
theorem read_two : double.read (ofF 2) = .number false 4503599627370496 (-51) := by decide +kernel
theorem half_of (x : Int) (hx : x.natAbs < 9007199254740992) : double.div (ofF x) (ofF 2) = some (halfF x) := by
  obtain ⟨k, rx, hb⟩ := read_of x hx
  unfold Format.div
  rw [rx, read_two, d_frac]
  simp only [Datum.quotient]
  rw [if_neg (by decide), show (4503599627370496 : Nat).log2 = 52 by decide +kernel]
  simp only [Option.map_some, Bool.xor_false]
  congr 1
  show double.nearest _ _ _ = _
  unfold halfF
  by_cases h0 : x = 0
  · subst h0
    have z : ∀ k : Nat, (0 : Int).natAbs * 2 ^ k = 0 := fun k => by rw [Int.natAbs_zero, Nat.zero_mul]
    rw [z, Int.natAbs_zero, nearest_zero]
    simp [nearest_zero]
  · have hn : x.natAbs ≠ 0 := by omega
    have hm : x.natAbs * 2 ^ k ≠ 0 := Nat.mul_ne_zero hn (pow_ne k)
    have hl := log2_lt53 hb hm
    have e2 := nearest_shift (decide (x < 0)) x.natAbs k (-1) hn
    generalize x.natAbs * 2 ^ k = m at *
    obtain ⟨e, he⟩ : ∃ e, 52 + 2 + 52 - m.log2 = e + 52 := ⟨52 + 2 - m.log2, by omega⟩
    rw [he, Nat.shiftLeft_eq, Nat.pow_add, ← Nat.mul_assoc, show (2 : Nat) ^ 52 = 4503599627370496 by decide, Nat.mul_div_cancel _ (by decide), Nat.mul_mod_left]
    have e3 := nearest_shift (decide (x < 0)) m (e + 1) (-1 - k) hm
    rw [← e2, ← e3]
    congr 1
    · rw [Nat.pow_succ]
      simp
      rw [Nat.mul_comm 2, Nat.mul_assoc]
    · omega
theorem read_half (x : Int) (hx : x.natAbs < 9007199254740992) : ∃ k : Nat, double.read (halfF x) = .number (decide (x < 0)) (x.natAbs * 2 ^ k) (-1 - (k : Int)) ∧ x.natAbs * 2 ^ k < 9007199254740992 := by
  unfold halfF
  by_cases h0 : x.natAbs = 0
  · have e : x = 0 := by omega
    subst e
    obtain ⟨k, hk⟩ : ∃ k : Nat, -1 - (k : Int) = -1074 := ⟨1073, rfl⟩
    refine ⟨k, ?_⟩
    rw [hk]
    have hc : Can 0 (-1074) := ⟨by decide, by decide, by decide, Or.inr rfl⟩
    have := read_can false hc
    rw [show rung 0 (-1074) = 0 from rfl] at this
    have z : ∀ k : Nat, (0 : Int).natAbs * 2 ^ k = 0 := fun k => by rw [Int.natAbs_zero, Nat.zero_mul]
    rw [z, Int.natAbs_zero, nearest_zero]
    exact ⟨this, by decide⟩
  · obtain ⟨k, hk⟩ := can_of x.natAbs (-1) h0 hx (by decide) (by decide)
    refine ⟨k, ?_⟩
    rw [nearest_can _ hk (Nat.mul_ne_zero h0 (pow_ne k)) (Or.inr ⟨k, rfl, by omega⟩), read_can _ hk]
    exact ⟨rfl, hk.lt⟩
theorem twice_half (x : Int) (hx : x.natAbs < 9007199254740992) : double.add (halfF x) (halfF x) = some (ofF x) := by
  obtain ⟨k, rx, _⟩ := read_half x hx
  unfold Format.add
  rw [rx]
  simp only [Datum.sum, Option.map_some]
  rw [show min (-1 - (k : Int)) (-1 - (k : Int)) = -((k + 1 : Nat) : Int) by omega, show (-1 - (k : Int) - -((k + 1 : Nat) : Int)).toNat = 0 by omega, signed_of, Nat.add_zero]
  have e : x * 2 ^ k + x * 2 ^ k = x * 2 ^ (k + 1) := by rw [Int.pow_succ, ← Int.mul_assoc]; omega
  rw [e]
  congr 1
  exact write_scaled x (k + 1) _ (by intro h; subst h; rfl)
end Go.Proofs.YtlemappbblofcaaDoor
