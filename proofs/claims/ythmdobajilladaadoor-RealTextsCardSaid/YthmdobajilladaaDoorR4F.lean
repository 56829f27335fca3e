/- Layer 4 (package real): Ldexp whole; Text. No condition. -/
import Derived.Test.YthmdobajilladaaDoorR4E
namespace Go.Proofs.YthmdobajilladaaDoor
open Go.RowKit Ieee
set_option linter.unusedVariables false

theorem nearest_n (r : Nat) (h0 : r ≠ 0) (hi : r < 9218868437227405312) (p : Int) : double.nearest false (rM r) (rE r + p) = double.nearest false (nM r) (nE r + p) := by
  have hb := nM_bd h0 hi
  refine nearest_eqv false (by omega) ?_
  rcases eqv_n r with ⟨k, a, b⟩ | ⟨k, a, b⟩
  · exact Or.inl ⟨k, a, by omega⟩
  · exact Or.inr ⟨k, a, by omega⟩
theorem ldexp_inner (r : Nat) (h0 : r ≠ 0) (hi : r < 9218868437227405312) (p : Int) (hp : -20000 ≤ p ∧ p ≤ 20000) (w : World) :
    Calls Tryd.prog 59 #[.float .f64 r, .int .i64 p] w fun e w' => e = .returned (.float .f64 (double.nearest false (rM r) (rE r + p))) ∧ w = w' := by
  have hb := nM_bd h0 hi
  rw [nearest_n r h0 hi p]
  by_cases c1 : nE r + p < -1127
  · have k := ldexp_tiny r h0 hi p hp c1 w
    rw [nearest_tiny false (nM r) _ hb.2 c1, word_f]
    exact k
  · by_cases c2 : nE r + p < -1074
    · exact ldexp_sub r h0 hi p hp ⟨by omega, c2⟩ w
    · by_cases c3 : nE r + p ≤ 971
      · exact ldexp_norm r h0 hi p hp ⟨by omega, c3⟩ w
      · have k := ldexp_huge r h0 hi p hp (by omega) w
        rw [nearest_huge false (nM r) _ hb.1 (by omega), word_f]
        exact k
set_option maxRecDepth 100000 in
theorem ldexp_zero (p : Int) (w : World) : Calls Tryd.prog 59 #[.float .f64 0, .int .i64 p] w fun e w' => e = .returned (.float .f64 0) ∧ w = w' := by
  have hz : (FloatKind.f64.format.order 0 0 == some .eq) = true := by rw [f64_order, order_eq (by decide)]; rfl
  go_enter Tryd.func59, Tryd.ntmps59
  go_wp2_with fail
  go_ret
  exact ⟨rfl, rfl⟩
set_option maxRecDepth 100000 in
theorem ldexp_inf (p : Int) (w : World) : Calls Tryd.prog 59 #[.float .f64 9218868437227405312, .int .i64 p] w fun e w' => e = .returned (.float .f64 9218868437227405312) ∧ w = w' := by
  have hz := order_zero (r := 9218868437227405312) (by decide) (by decide)
  have hI := Lib.hid (isinf0_calls 9218868437227405312 (by decide))
  rw [decide_eq_true rfl] at hI
  go_enter Tryd.func59, Tryd.ntmps59
  go_wp2_with fail
  refine (hI.out _).mono ?_
  rintro e w1 ⟨rfl, rfl⟩
  go_wp2_with fail
  go_ret
  exact ⟨rfl, rfl⟩
theorem ldexp_any (r : Nat) (hi : r ≤ 9218868437227405312) (p : Int) (hp : -20000 ≤ p ∧ p ≤ 20000) (w : World) :
    Calls Tryd.prog 59 #[.float .f64 r, .int .i64 p] w fun e w' => e = .returned (.float .f64 (ldW r p)) ∧ w = w' := by
  unfold ldW
  by_cases c0 : r = 0
  · rw [if_pos c0]; subst c0; exact ldexp_zero p w
  · rw [if_neg c0]
    by_cases c1 : r = 9218868437227405312
    · rw [if_pos c1]; subst c1; exact ldexp_inf p w
    · rw [if_neg c1]; exact ldexp_inner r c0 (by omega) p hp w
theorem ldexp_calls (r : Nat) (hi : r ≤ 9218868437227405312) (p : Int) (hp : -20000 ≤ p ∧ p ≤ 20000) (w : World) :
    Calls Tryd.prog 41 #[.float .f64 r, .int .i64 p] w fun e w' => e = .returned (.float .f64 (ldW r p)) ∧ w = w' := by
  have h := Lib.hid (ldexp_any r hi p hp)
  generalize ldW r p = y at *
  clear hi hp
  go_enter Tryd.func41, Tryd.ntmps41
  go_wp2_with fail
  refine (h.out _).mono ?_
  rintro e w1 ⟨rfl, rfl⟩
  go_wp2_with fail
  go_ret
  exact ⟨rfl, rfl⟩

/-- A float that is a whole number below 2^64 as that number. -/
theorem whole_float {M : Nat} (h1 : 4503599627370496 ≤ M) (h2 : M < 9007199254740992) : floatToIntVal .f64 (rung M 0) .u64 = some (M : Int) := by
  have hc : Can M 0 := ⟨h2, by decide, by decide, Or.inl h1⟩
  have hr : double.read (rung M 0) = .number false M 0 := by
    have := read_can false hc
    rwa [word_f] at this
  have hd : FloatKind.f64.decode (rung M 0) = .number false M 0 := hr
  unfold floatToIntVal
  rw [hd]
  have ht : (Datum.number false M 0).toInt .zero = some (M : Int) := by
    unfold Datum.toInt Datum.integral
    simp only [Int.toNat_zero, Int.neg_zero, Nat.shiftLeft_zero, cut_zero, signed_f, Nat.pow_zero, Nat.mul_one]
  rw [ht]
  have hb : IntKind.u64.min ≤ (M : Int) ∧ (M : Int) ≤ IntKind.u64.max := by
    have a : IntKind.u64.min = 0 := by decide +kernel
    have b : IntKind.u64.max = 18446744073709551615 := by decide +kernel
    rw [a, b]; omega
  simp only [hb]
  rw [if_pos ⟨trivial, trivial⟩]
/-- The part that is cut off for a number's text is that number's own, with all its bits. -/
theorem ld_frac {f : Nat} (hf : f < 4503599627370496) : ldW (4602678819172646912 + f) 53 = rung (4503599627370496 + f) 0 := by
  unfold ldW
  rw [if_neg (by omega), if_neg (by omega)]
  have e1 : rM (4602678819172646912 + f) = 4503599627370496 + f := by unfold rM; rw [if_neg (by omega)]; omega
  have e2 : rE (4602678819172646912 + f) = -53 := by unfold rE; rw [if_neg (by omega)]; omega
  rw [e1, e2, show (-53 : Int) + 53 = 0 from rfl]
  have hc : Can (4503599627370496 + f) 0 := ⟨by omega, by decide, by decide, Or.inl (by omega)⟩
  rw [nearest_can false hc (by omega) (eqv_refl _ _), word_f]

def zN (r : Nat) : Nat := Lib.ctz 64 (nM r)
/-- The text of a finite number that is not 0, without a sign. -/
def uText (r : Nat) : List UInt8 := Lib.decDigits (nM r / 2 ^ zN r) ++ 112 :: Lib.itoa (nE r + zN r)
theorem nd_le {u : Nat} (h : u < 18446744073709551616) : Lib.nDigits u ≤ 20 := by
  by_cases h0 : u = 0
  · subst h0; decide +kernel
  · have := Lib.numDigits_eq u (by omega) h
    split at this <;> omega
theorem itoa_len {n : Int} (h : I64 n) : (Lib.itoa n).length ≤ 21 := by
  unfold Lib.itoa I64 at *
  split
  · rw [List.length_cons, Lib.decDigits_length]
    have := nd_le (u := n.natAbs) (by omega)
    omega
  · rw [Lib.decDigits_length]
    have := nd_le (u := n.toNat) (by omega)
    omega
theorem size_list (l : List UInt8) : (⟨l.toArray⟩ : ByteArray).size = l.length := by simp [ByteArray.size]
theorem ret_str {a b : ByteArray} (h : a = b) : Ending.returned (.string a) = .returned (.string b) := by rw [h]
theorem join3 (x y : List UInt8) (c : UInt8) : (⟨x.toArray⟩ : ByteArray) ++ (⟨#[c]⟩ : ByteArray) ++ (⟨y.toArray⟩ : ByteArray) = ⟨(x ++ c :: y).toArray⟩ := by
  rw [ByteArray.mk_append_mk, ByteArray.mk_append_mk]
  congr 1
  simp
set_option maxHeartbeats 1000000 in
set_option maxRecDepth 100000 in
theorem utext_fin (r : Nat) (h0 : r ≠ 0) (hi : r < 9218868437227405312) (w : World) (g : Good w) :
    Calls Tryd.prog 34 #[.float .f64 r] w fun e w' => e = .returned (.string ⟨(uText r).toArray⟩) ∧ Far w w' := by
  have hz := order_zero h0 (Nat.le_of_lt hi)
  have hI := isinf1_calls r (Nat.le_of_lt hi)
  rw [decide_eq_false (by omega)] at hI
  have HI := Lib.hid hI
  have HF := Lib.hid (frexp_calls r h0 hi)
  have hb := nM_bd h0 hi
  have hE := nE_bd hi
  have hl := ldexp_calls (4602678819172646912 + (nM r - 4503599627370496)) (by omega) 53 (by decide)
  rw [ld_frac (by omega), show 4503599627370496 + (nM r - 4503599627370496) = nM r by omega] at hl
  have HL := Lib.hid hl
  have hcv := fun W => run_convert_float_int (P := Tryd.prog) W 47 44 .f64 .u64 (rung (nM r) 0) (nM r) (by kernel_rfl) Tryd.underlying44 (whole_float hb.1 hb.2)
  have HT := Lib.hid (tz_calls (nM r) (by omega) (by omega))
  unfold uText zN
  obtain ⟨hlow, hk⟩ := Lib.lowest_bit 64 (nM r) (by omega) (by omega)
  generalize 4602678819172646912 + (nM r - 4503599627370496) = part at *
  generalize rung (nM r) 0 = wf at *
  generalize nM r = M at *
  generalize nE r = E at *
  have hz0 : 0 ≤ Lib.ctz 64 M := Nat.zero_le _
  generalize Lib.ctz 64 M = z at *
  have hu := fun w g => formatuint_calls (M / 2 ^ z) (Nat.lt_of_le_of_lt (Nat.div_le_self _ _) (by omega)) w g
  rw [show ((M / 2 ^ z : Nat) : Int) = (M : Int) / 2 ^ z by rw [Int.natCast_ediv, Int.natCast_pow]; rfl] at hu
  have hi64 : I64 (E + z) := by unfold I64; omega
  have ha := itoa_calls (E + z) hi64
  have hj := join3 (Lib.decDigits (M / 2 ^ z)) (Lib.itoa (E + z)) 112
  have sA : (⟨(Lib.decDigits (M / 2 ^ z)).toArray⟩ : ByteArray).size ≤ 20 := by
    rw [size_list, Lib.decDigits_length]
    exact nd_le (Nat.lt_of_le_of_lt (Nat.div_le_self _ _) (by omega))
  have sB : (⟨(Lib.itoa (E + z)).toArray⟩ : ByteArray).size ≤ 21 := by rw [size_list]; exact itoa_len hi64
  rw [← hj]
  generalize (⟨(Lib.decDigits (M / 2 ^ z)).toArray⟩ : ByteArray) = SA at *
  generalize (⟨(Lib.itoa (E + z)).toArray⟩ : ByteArray) = SB at *
  have HA := Lib.hid ha
  have HU := Lib.hid hu
  have k1 := fun W => run_string_add_sum (P := Tryd.prog) W SA ⟨#[112]⟩ (by have : (⟨#[112]⟩ : ByteArray).size = 1 := rfl; omega)
  have k2 := fun W => run_string_add_sum (P := Tryd.prog) W (SA ++ ⟨#[112]⟩) SB (by rw [ByteArray.size_append]; have : (⟨#[112]⟩ : ByteArray).size = 1 := rfl; omega)
  clear hu ha hj sA sB hi64
  clear hI hl hlow
  obtain ⟨b1, b2⟩ := hb
  obtain ⟨c1, c2, c3⟩ := hE
  clear c3 h0 hi
  go_enter Tryd.func34, Tryd.ntmps34
  go_wp2_with fail
  refine (HI.out _).mono ?_
  rintro e w1 ⟨rfl, rfl⟩
  go_wp2_with fail
  refine (HF.out _).mono ?_
  rintro e w1 ⟨rfl, rfl⟩
  go_wp2_with fail
  refine (HL.out _).mono ?_
  rintro e w1 ⟨rfl, rfl⟩
  go_wp2_with fail
  refine (HT.out _ g).mono ?_
  rintro e w1 ⟨rfl, rfl⟩
  go_wp2_with fail
  refine (HU.out _ g).mono ?_
  rintro e w1 ⟨rfl, hx⟩
  go_wp2_with fail
  refine (HA.out _ (g.far hx)).mono ?_
  rintro e w2 ⟨rfl, hy⟩
  go_wp2_with fail
  go_ret
  exact ⟨rfl, hx.trans hy⟩
end Go.Proofs.YthmdobajilladaaDoor
