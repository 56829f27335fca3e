/- Layer 4: cells of floats; To by cases; calls through the laws' own closures. No condition. -/
import Derived.Test.YthmdobajilladaaDoorR4G
import Derived.Test.YthmdobajilladaaDoorJF
namespace Go.Proofs.YthmdobajilladaaDoor
open Go.RowKit Ieee
set_option linter.unusedVariables false

theorem fbits_cell {x : Nat} (h : x < 18446744073709551616) (hn : isN x = false) : fbits (cellOf x) = x := by
  unfold fbits cellOf
  rw [hn, if_neg (by decide), IntKind.wrap_u64]
  unfold wrap64
  omega
theorem cell_fbits {a : Int} (h : I64 a) (hn : isN (fbits a) = false) : cellOf (fbits a) = a := by
  unfold cellOf
  rw [hn, if_neg (by decide)]
  unfold fbits I64 at *
  rw [IntKind.wrap_u64]
  unfold wrap64
  omega
theorem nearest_form (s : Bool) (m : Nat) (p : Int) : ∃ r, r ≤ 9218868437227405312 ∧ double.nearest s m p = double.word s r := by
  unfold Format.nearest
  rw [d_inf]
  by_cases h : m = 0
  · rw [if_pos h]; exact ⟨0, by decide, rfl⟩
  · rw [if_neg h]; exact ⟨_, Nat.min_le_right _ _, rfl⟩
theorem word_lt64 (s : Bool) {r : Nat} (h : r < 9223372036854775808) : double.word s r < 18446744073709551616 := by
  rw [word_d]; cases s <;> simp <;> omega
theorem nearest_ok (s : Bool) (m : Nat) (p : Int) : double.nearest s m p < 18446744073709551616 ∧ isN (double.nearest s m p) = false := by
  obtain ⟨r, h, e⟩ := nearest_form s m p
  rw [e]
  exact ⟨word_lt64 s (by omega), isN_word s h⟩
theorem fbits_nearest (s : Bool) (m : Nat) (p : Int) : fbits (cellOf (double.nearest s m p)) = double.nearest s m p := fbits_cell (nearest_ok s m p).1 (nearest_ok s m p).2
theorem fbits_of (n : Int) : fbits (cellOf (ofF n)) = ofF n := fbits_nearest _ _ _
theorem fbits_half (n : Int) : fbits (cellOf (halfF n)) = halfF n := fbits_nearest _ _ _

theorem to_in (a : Int) (s : Bool) (M : Nat) (E : Int) (hx : double.read (fbits a) = .number s M E) (h : M < 9007199254740992) (hE : E < 11) (w : World) :
    Calls Tryd.prog 16 #[.int .i64 a] w fun e w' => e = .returned (.tuple #[.int .i64 (if s then -(tr M E : Int) else (tr M E : Int)), .int .i64 0]) ∧ w = w' := by
  obtain ⟨c, d⟩ := flt_range _ s M E hx h hE
  have ht := tr_lt h hE
  exact to_yes a _ c d (val_of_read _ s M E hx _ rfl (by cases s <;> simp <;> omega)) w
theorem to_low (a : Int) (hx : double.read (fbits a) = .number true 4503599627370496 11) (w : World) :
    Calls Tryd.prog 16 #[.int .i64 a] w fun e w' => e = .returned (.tuple #[.int .i64 (-9223372036854775808), .int .i64 0]) ∧ w = w' := by
  obtain ⟨c, d⟩ := is_low _ hx
  exact to_yes a _ c d (val_of_read _ true _ _ hx _ (by decide +kernel) (by decide)) w
theorem to_out (a : Int) (h : isN (fbits a) = true ∨ (∃ s, double.read (fbits a) = .infinity s) ∨ ∃ s M E, double.read (fbits a) = .number s M E ∧ 4503599627370496 ≤ M ∧ 11 ≤ E ∧ ¬ (s = true ∧ M = 4503599627370496 ∧ E = 11)) (w : World) :
    Calls Tryd.prog 16 #[.int .i64 a] w fun e w' => e = .returned (.tuple #[.int .i64 0, .int .i64 (-43)]) ∧ w = w' := by
  refine to_no a ?_ w
  rcases h with h | ⟨s, h⟩ | ⟨s, M, E, hx, hM, hE, hn⟩
  · exact Or.inr (nan_out _ h)
  · exact inf_out _ s h
  · cases s
    · exact Or.inr (not_above _ M E hx hM hE)
    · exact Or.inl (not_low _ M E hx hM hE (fun q => hn ⟨rfl, q⟩))
/-- RealWhole's own closure. -/
theorem two_w (op p q c : Int) (h : ∀ W, Calls Tryd.prog 14 #[.int .i64 op, .int .i64 (cellOf (ofF p)), .int .i64 (cellOf (ofF q))] W fun e w' => e = .returned (.tuple #[.int .i64 c, .int .i64 0]) ∧ Ext W w') (w : World) :
    Calls Tryd.prog 20 #[.int .i64 op, .int .i64 p, .int .i64 q] w fun e w' => e = .returned (.int .i64 c) ∧ Far w w' := by
  have hp := Lib.hid (of_calls p)
  have hq := Lib.hid (of_calls q)
  have H := Lib.hid h
  clear h
  generalize cellOf (ofF p) = x at *
  generalize cellOf (ofF q) = y at *
  go_enter Tryd.func20, Tryd.ntmps20
  go_wp2_with fail
  refine (hp.out _).mono ?_
  rintro e w1 ⟨rfl, rfl⟩
  go_wp2_with fail
  refine (hq.out _).mono ?_
  rintro e w1 ⟨rfl, rfl⟩
  go_wp2_with fail
  refine (H.out _).mono ?_
  rintro e w1 ⟨rfl, hx⟩
  go_wp2_with fail
  go_ret
  exact ⟨rfl, hx.far⟩
theorem truth4 (b : Bool) (w : World) : Calls Tryd.prog 21 #[.bool b] w fun e w' => e = .returned (.int .i64 (truthI b)) ∧ w = w' := by
  cases b <;> (go_enter Tryd.func21, Tryd.ntmps21; go_wp2; go_ret; exact ⟨rfl, rfl⟩)
theorem cmp_lt (x y : Int) : (some (compare x y) == some Ordering.lt) = decide (x < y) := by
  by_cases h : x < y
  · rw [Int.compare_eq_lt.2 h, decide_eq_true h]; rfl
  · rw [decide_eq_false h]
    cases k : compare x y with
    | lt => exact absurd (Int.compare_eq_lt.1 k) h
    | eq => rfl
    | gt => rfl
theorem cmp_eq (x y : Int) : (some (compare x y) == some Ordering.eq) = decide (x = y) := by
  by_cases h : x = y
  · subst h; simp
  · rw [decide_eq_false h]
    cases k : compare x y with
    | lt => rfl
    | eq => exact absurd (Int.compare_eq_eq.1 k) h
    | gt => rfl
section
variable (x y : Int) (hx : x.natAbs < 9007199254740992) (hy : y.natAbs < 9007199254740992)
include hx hy
theorem w_add (w : World) : Calls Tryd.prog 20 #[.int .i64 3, .int .i64 x, .int .i64 y] w fun e w' => e = .returned (.int .i64 (cellOf (ofF (x + y)))) ∧ Far w w' :=
  two_w 3 x y _ (fun W => by have k := two_add (cellOf (ofF x)) (cellOf (ofF y)) W; rw [fbits_of, fbits_of, add_of x y hx hy] at k; exact k) w
theorem w_sub (w : World) : Calls Tryd.prog 20 #[.int .i64 4, .int .i64 x, .int .i64 y] w fun e w' => e = .returned (.int .i64 (cellOf (ofF (x - y)))) ∧ Far w w' :=
  two_w 4 x y _ (fun W => by have k := two_sub (cellOf (ofF x)) (cellOf (ofF y)) W; rw [fbits_of, fbits_of, sub_of x y hx hy] at k; exact k) w
theorem w_mul (h0 : x ≠ 0) (h1 : y ≠ 0) (w : World) : Calls Tryd.prog 20 #[.int .i64 5, .int .i64 x, .int .i64 y] w fun e w' => e = .returned (.int .i64 (cellOf (ofF (x * y)))) ∧ Far w w' :=
  two_w 5 x y _ (fun W => by have k := two_mul (cellOf (ofF x)) (cellOf (ofF y)) W; rw [fbits_of, fbits_of, mul_of x y hx hy h0 h1] at k; exact k) w
theorem w_less (w : World) : Calls Tryd.prog 20 #[.int .i64 9, .int .i64 x, .int .i64 y] w fun e w' => e = .returned (.int .i64 (truthI (decide (x < y)))) ∧ Far w w' :=
  two_w 9 x y _ (fun W => by have k := two_less (cellOf (ofF x)) (cellOf (ofF y)) W; rw [fbits_of, fbits_of, order_of x y hx hy, cmp_lt] at k; exact k) w
theorem w_eq (w : World) : Calls Tryd.prog 20 #[.int .i64 10, .int .i64 x, .int .i64 y] w fun e w' => e = .returned (.int .i64 (truthI (x == y))) ∧ Far w w' :=
  two_w 10 x y _ (fun W => by have k := two_equal (cellOf (ofF x)) (cellOf (ofF y)) W; rw [fbits_of, fbits_of, order_of x y hx hy, cmp_eq] at k; exact k) w
end
theorem w_half (x : Int) (hx : x.natAbs < 9007199254740992) (w : World) : Calls Tryd.prog 20 #[.int .i64 6, .int .i64 x, .int .i64 2] w fun e w' => e = .returned (.int .i64 (cellOf (halfF x))) ∧ Far w w' :=
  two_w 6 x 2 _ (fun W => by have k := two_quo (cellOf (ofF x)) (cellOf (ofF 2)) W; rw [fbits_of, fbits_of, half_of x hx] at k; exact k) w
theorem w_twice (x : Int) (hx : x.natAbs < 9007199254740992) (w : World) : Calls Tryd.prog 14 #[.int .i64 3, .int .i64 (cellOf (halfF x)), .int .i64 (cellOf (halfF x))] w fun e w' => e = .returned (.tuple #[.int .i64 (cellOf (ofF x)), .int .i64 0]) ∧ Ext w w' := by
  have k := two_add (cellOf (halfF x)) (cellOf (halfF x)) w
  rw [fbits_half, twice_half x hx] at k
  exact k
theorem tr_half (m k : Nat) : tr (m * 2 ^ k) (-1 - (k : Int)) = m / 2 := by
  unfold tr
  rw [show (-1 - (k : Int)).toNat = 0 by omega, show (-(-1 - (k : Int))).toNat = k + 1 by omega, Nat.pow_zero, Nat.mul_one, Nat.pow_succ, Nat.mul_comm (2 ^ k) 2]
  exact Nat.mul_div_mul_right _ _ (Nat.two_pow_pos k)
theorem w_to (x : Int) (hx : x.natAbs < 1073741824) (w : World) : Calls Tryd.prog 16 #[.int .i64 (cellOf (halfF x))] w fun e w' => e = .returned (.tuple #[.int .i64 (x.tdiv 2), .int .i64 0]) ∧ w = w' := by
  obtain ⟨k, rx, hb⟩ := read_half x (by omega)
  have t := to_in (cellOf (halfF x)) _ _ _ (by rw [fbits_half]; exact rx) hb (by omega) w
  rw [tr_half] at t
  have e : (if decide (x < 0) = true then -((x.natAbs / 2 : Nat) : Int) else ((x.natAbs / 2 : Nat) : Int)) = x.tdiv 2 := by
    by_cases h : x < 0
    · rw [decide_eq_true h, if_pos rfl]
      have e : x = -(x.natAbs : Int) := by omega
      conv => rhs; rw [e, Int.neg_tdiv, Int.tdiv_eq_ediv_of_nonneg (Int.natCast_nonneg _)]
      omega
    · rw [decide_eq_false h, if_neg (by decide), Int.tdiv_eq_ediv_of_nonneg (by omega)]
      omega
  rw [e] at t
  exact t
end Go.Proofs.YthmdobajilladaaDoor
