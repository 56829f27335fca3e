/- Layer 4 (package real): Ldexp whole; Text. No condition. Layer 4 (package real): Text of each cell; the document's examples. No condition. Layer 4: cells of floats; To by cases; calls through the laws' own closures. No condition. -/
import Derived.Test.YtegcecpmdgljpaaGreatDoorR4E
import Derived.Test.YtegcecpmdgljpaaGreatDoorMGF
namespace Go.Proofs.YtegcecpmdgljpaaGreatDoor
open Go.RowKit Ieee
set_option linter.unusedVariables false

theorem nearest_n (r : Nat) (h0 : r ≠ 0) (hi : r < 9218868437227405312) (p : Int) : double.nearest false (rM r) (rE r + p) = double.nearest false (nM r) (nE r + p) := by
  have hb := nM_bd h0 hi
  refine nearest_eqv false (by omega) ?_
  rcases eqv_n r with ⟨k, a, b⟩ | ⟨k, a, b⟩
  · exact Or.inl ⟨k, a, by omega⟩
  · exact Or.inr ⟨k, a, by omega⟩
theorem ldexp_inner (r : Nat) (h0 : r ≠ 0) (hi : r < 9218868437227405312) (p : Int) (hp : -20000 ≤ p ∧ p ≤ 20000) (w : World) :
    Calls Tryz.prog 256 #[.float .f64 r, .int .i64 p] w fun e w' => e = .returned (.float .f64 (double.nearest false (rM r) (rE r + p))) ∧ w = w' := by
  have hb := nM_bd h0 hi
  rw [nearest_n r h0 hi p]
  by_cases c1 : nE r + p < -1127
  · have k := ldexp_tiny r h0 hi p hp c1 w
    rw [nearest_tiny false (nM r) _ hb.2 c1, word_f]
    exact k
  · by_cases c2 : nE r + p < -1074
    · exact ldexp_sub r h0 hi p hp ⟨by omega, c2⟩ w
    · by_cases c3 : nE r + p ≤ 971
      · exact ldexp_norm r h0 hi p hp ⟨by omega, c3⟩ w
      · have k := ldexp_huge r h0 hi p hp (by omega) w
        rw [nearest_huge false (nM r) _ hb.1 (by omega), word_f]
        exact k
set_option maxRecDepth 100000 in
theorem ldexp_zero (p : Int) (w : World) : Calls Tryz.prog 256 #[.float .f64 0, .int .i64 p] w fun e w' => e = .returned (.float .f64 0) ∧ w = w' := by
  have hz : (FloatKind.f64.format.order 0 0 == some .eq) = true := by rw [f64_order, order_eq (by decide)]; rfl
  go_enter Tryz.func256, Tryz.ntmps256
  go_wp2_with fail
  go_ret
  exact ⟨rfl, rfl⟩
set_option maxRecDepth 100000 in
theorem ldexp_inf (p : Int) (w : World) : Calls Tryz.prog 256 #[.float .f64 9218868437227405312, .int .i64 p] w fun e w' => e = .returned (.float .f64 9218868437227405312) ∧ w = w' := by
  have hz := order_zero (r := 9218868437227405312) (by decide) (by decide)
  have hI := Lib.hid (isinf0_calls 9218868437227405312 (by decide))
  rw [decide_eq_true rfl] at hI
  go_enter Tryz.func256, Tryz.ntmps256
  go_wp2_with fail
  refine (hI.out _).mono ?_
  rintro e w1 ⟨rfl, rfl⟩
  go_wp2_with fail
  go_ret
  exact ⟨rfl, rfl⟩
theorem ldexp_any (r : Nat) (hi : r ≤ 9218868437227405312) (p : Int) (hp : -20000 ≤ p ∧ p ≤ 20000) (w : World) :
    Calls Tryz.prog 256 #[.float .f64 r, .int .i64 p] w fun e w' => e = .returned (.float .f64 (ldW r p)) ∧ w = w' := by
  unfold ldW
  by_cases c0 : r = 0
  · rw [if_pos c0]; subst c0; exact ldexp_zero p w
  · rw [if_neg c0]
    by_cases c1 : r = 9218868437227405312
    · rw [if_pos c1]; subst c1; exact ldexp_inf p w
    · rw [if_neg c1]; exact ldexp_inner r c0 (by omega) p hp w
theorem ldexp_calls (r : Nat) (hi : r ≤ 9218868437227405312) (p : Int) (hp : -20000 ≤ p ∧ p ≤ 20000) (w : World) :
    Calls Tryz.prog 241 #[.float .f64 r, .int .i64 p] w fun e w' => e = .returned (.float .f64 (ldW r p)) ∧ w = w' := by
  have h := Lib.hid (ldexp_any r hi p hp)
  generalize ldW r p = y at *
  clear hi hp
  go_enter Tryz.func241, Tryz.ntmps241
  go_wp2_with fail
  refine (h.out _).mono ?_
  rintro e w1 ⟨rfl, rfl⟩
  go_wp2_with fail
  go_ret
  exact ⟨rfl, rfl⟩

/-- A float that is a whole number below 2^64 as that number. -/
theorem whole_float {M : Nat} (h1 : 4503599627370496 ≤ M) (h2 : M < 9007199254740992) : floatToIntVal .f64 (rung M 0) .u64 = some (M : Int) := by
  have hc : Can M 0 := ⟨h2, by decide, by decide, Or.inl h1⟩
  have hr : double.read (rung M 0) = .number false M 0 := by
    have := read_can false hc
    rwa [word_f] at this
  have hd : FloatKind.f64.decode (rung M 0) = .number false M 0 := hr
  unfold floatToIntVal
  rw [hd]
  have ht : (Datum.number false M 0).toInt .zero = some (M : Int) := by
    unfold Datum.toInt Datum.integral
    simp only [Int.toNat_zero, Int.neg_zero, Nat.shiftLeft_zero, cut_zero, signed_f, Nat.pow_zero, Nat.mul_one]
  rw [ht]
  have hb : IntKind.u64.min ≤ (M : Int) ∧ (M : Int) ≤ IntKind.u64.max := by
    have a : IntKind.u64.min = 0 := by decide +kernel
    have b : IntKind.u64.max = 18446744073709551615 := by decide +kernel
    rw [a, b]; omega
  simp only [hb]
  rw [if_pos ⟨trivial, trivial⟩]
/-- The part that is cut off for a number's text is that number's own, with all its bits. -/
theorem ld_frac {f : Nat} (hf : f < 4503599627370496) : ldW (4602678819172646912 + f) 53 = rung (4503599627370496 + f) 0 := by
  unfold ldW
  rw [if_neg (by omega), if_neg (by omega)]
  have e1 : rM (4602678819172646912 + f) = 4503599627370496 + f := by unfold rM; rw [if_neg (by omega)]; omega
  have e2 : rE (4602678819172646912 + f) = -53 := by unfold rE; rw [if_neg (by omega)]; omega
  rw [e1, e2, show (-53 : Int) + 53 = 0 from rfl]
  have hc : Can (4503599627370496 + f) 0 := ⟨by omega, by decide, by decide, Or.inl (by omega)⟩
  rw [nearest_can false hc (by omega) (eqv_refl _ _), word_f]

def zN (r : Nat) : Nat := Lib.ctz 64 (nM r)
/-- The text of a finite number that is not 0, without a sign. -/
def uText (r : Nat) : List UInt8 := Lib.decDigits (nM r / 2 ^ zN r) ++ 112 :: Lib.itoa (nE r + zN r)
theorem nd_le {u : Nat} (h : u < 18446744073709551616) : Lib.nDigits u ≤ 20 := by
  by_cases h0 : u = 0
  · subst h0; decide +kernel
  · have := Lib.numDigits_eq u (by omega) h
    split at this <;> omega
theorem itoa_len {n : Int} (h : I64 n) : (Lib.itoa n).length ≤ 21 := by
  unfold Lib.itoa I64 at *
  split
  · rw [List.length_cons, Lib.decDigits_length]
    have := nd_le (u := n.natAbs) (by omega)
    omega
  · rw [Lib.decDigits_length]
    have := nd_le (u := n.toNat) (by omega)
    omega
theorem size_list (l : List UInt8) : (⟨l.toArray⟩ : ByteArray).size = l.length := by simp [ByteArray.size]
theorem ret_str {a b : ByteArray} (h : a = b) : Ending.returned (.string a) = .returned (.string b) := by rw [h]
theorem join3 (x y : List UInt8) (c : UInt8) : (⟨x.toArray⟩ : ByteArray) ++ (⟨#[c]⟩ : ByteArray) ++ (⟨y.toArray⟩ : ByteArray) = ⟨(x ++ c :: y).toArray⟩ := by
  rw [ByteArray.mk_append_mk, ByteArray.mk_append_mk]
  congr 1
  simp
set_option maxHeartbeats 1000000 in
set_option maxRecDepth 100000 in
theorem utext_fin (r : Nat) (h0 : r ≠ 0) (hi : r < 9218868437227405312) (w : World) (g : Good w) :
    Calls Tryz.prog 212 #[.float .f64 r] w fun e w' => e = .returned (.string ⟨(uText r).toArray⟩) ∧ Far w w' := by
  have hz := order_zero h0 (Nat.le_of_lt hi)
  have hI := isinf1_calls r (Nat.le_of_lt hi)
  rw [decide_eq_false (by omega)] at hI
  have HI := Lib.hid hI
  have HF := Lib.hid (frexp_calls r h0 hi)
  have hb := nM_bd h0 hi
  have hE := nE_bd hi
  have hl := ldexp_calls (4602678819172646912 + (nM r - 4503599627370496)) (by omega) 53 (by decide)
  rw [ld_frac (by omega), show 4503599627370496 + (nM r - 4503599627370496) = nM r by omega] at hl
  have HL := Lib.hid hl
  have hcv := fun W => run_convert_float_int (P := Tryz.prog) W 159 109 .f64 .u64 (rung (nM r) 0) (nM r) (by kernel_rfl) Tryz.underlying109 (whole_float hb.1 hb.2)
  have HT := Lib.hid (tz_calls (nM r) (by omega) (by omega))
  unfold uText zN
  obtain ⟨hlow, hk⟩ := Lib.lowest_bit 64 (nM r) (by omega) (by omega)
  generalize 4602678819172646912 + (nM r - 4503599627370496) = part at *
  generalize rung (nM r) 0 = wf at *
  generalize nM r = M at *
  generalize nE r = E at *
  have hz0 : 0 ≤ Lib.ctz 64 M := Nat.zero_le _
  generalize Lib.ctz 64 M = z at *
  have hu := fun w g => formatuint_calls (M / 2 ^ z) (Nat.lt_of_le_of_lt (Nat.div_le_self _ _) (by omega)) w g
  rw [show ((M / 2 ^ z : Nat) : Int) = (M : Int) / 2 ^ z by rw [Int.natCast_ediv, Int.natCast_pow]; rfl] at hu
  have hi64 : I64 (E + z) := by unfold I64; omega
  have ha := itoa_calls (E + z) hi64
  have hj := join3 (Lib.decDigits (M / 2 ^ z)) (Lib.itoa (E + z)) 112
  have sA : (⟨(Lib.decDigits (M / 2 ^ z)).toArray⟩ : ByteArray).size ≤ 20 := by
    rw [size_list, Lib.decDigits_length]
    exact nd_le (Nat.lt_of_le_of_lt (Nat.div_le_self _ _) (by omega))
  have sB : (⟨(Lib.itoa (E + z)).toArray⟩ : ByteArray).size ≤ 21 := by rw [size_list]; exact itoa_len hi64
  rw [← hj]
  generalize (⟨(Lib.decDigits (M / 2 ^ z)).toArray⟩ : ByteArray) = SA at *
  generalize (⟨(Lib.itoa (E + z)).toArray⟩ : ByteArray) = SB at *
  have HA := Lib.hid ha
  have HU := Lib.hid hu
  have k1 := fun W => run_string_add_sum (P := Tryz.prog) W SA ⟨#[112]⟩ (by have : (⟨#[112]⟩ : ByteArray).size = 1 := rfl; omega)
  have k2 := fun W => run_string_add_sum (P := Tryz.prog) W (SA ++ ⟨#[112]⟩) SB (by rw [ByteArray.size_append]; have : (⟨#[112]⟩ : ByteArray).size = 1 := rfl; omega)
  clear hu ha hj sA sB hi64
  clear hI hl hlow
  obtain ⟨b1, b2⟩ := hb
  obtain ⟨c1, c2, c3⟩ := hE
  clear c3 h0 hi
  go_enter Tryz.func212, Tryz.ntmps212
  go_wp2_with fail
  refine (HI.out _).mono ?_
  rintro e w1 ⟨rfl, rfl⟩
  go_wp2_with fail
  refine (HF.out _).mono ?_
  rintro e w1 ⟨rfl, rfl⟩
  go_wp2_with fail
  refine (HL.out _).mono ?_
  rintro e w1 ⟨rfl, rfl⟩
  go_wp2_with fail
  refine (HT.out _ g).mono ?_
  rintro e w1 ⟨rfl, rfl⟩
  go_wp2_with fail
  refine (HU.out _ g).mono ?_
  rintro e w1 ⟨rfl, hx⟩
  go_wp2_with fail
  refine (HA.out _ (g.far hx)).mono ?_
  rintro e w2 ⟨rfl, hy⟩
  go_wp2_with fail
  go_ret
  exact ⟨rfl, hx.trans hy⟩
end Go.Proofs.YtegcecpmdgljpaaGreatDoor

namespace Go.Proofs.YtegcecpmdgljpaaGreatDoor
open Go.RowKit Ieee
set_option linter.unusedVariables false

/-- The text of a number without a sign. -/
def bodyText (r : Nat) : List UInt8 := if r = 0 then [48, 112, 48] else if r = 9218868437227405312 then [105, 110, 102] else uText r
set_option maxRecDepth 100000 in
theorem utext_zero (w : World) : Calls Tryz.prog 212 #[.float .f64 0] w fun e w' => e = .returned (.string ⟨#[48, 112, 48]⟩) ∧ Far w w' := by
  have hz : (FloatKind.f64.format.order 0 0 == some .eq) = true := by rw [f64_order, order_eq (by decide)]; rfl
  go_enter Tryz.func212, Tryz.ntmps212
  go_wp2_with fail
  go_ret
  exact ⟨rfl, Far.refl _⟩
set_option maxRecDepth 100000 in
theorem utext_inf (w : World) : Calls Tryz.prog 212 #[.float .f64 9218868437227405312] w fun e w' => e = .returned (.string ⟨#[105, 110, 102]⟩) ∧ Far w w' := by
  have hz := order_zero (r := 9218868437227405312) (by decide) (by decide)
  have hI := Lib.hid (isinf1_calls 9218868437227405312 (by decide))
  rw [decide_eq_true rfl] at hI
  go_enter Tryz.func212, Tryz.ntmps212
  go_wp2_with fail
  refine (hI.out _).mono ?_
  rintro e w1 ⟨rfl, rfl⟩
  go_wp2_with fail
  go_ret
  exact ⟨rfl, Far.refl _⟩
theorem utext_calls (r : Nat) (hi : r ≤ 9218868437227405312) (w : World) (g : Good w) :
    Calls Tryz.prog 212 #[.float .f64 r] w fun e w' => e = .returned (.string ⟨(bodyText r).toArray⟩) ∧ Far w w' := by
  unfold bodyText
  by_cases c0 : r = 0
  · rw [if_pos c0]; subst c0; exact utext_zero w
  · rw [if_neg c0]
    by_cases c1 : r = 9218868437227405312
    · rw [if_pos c1]; subst c1; exact utext_inf w
    · rw [if_neg c1]; exact utext_fin r c0 (by omega) w g
theorem body_len (r : Nat) (hi : r ≤ 9218868437227405312) : (bodyText r).length ≤ 43 := by
  unfold bodyText
  by_cases c0 : r = 0
  · rw [if_pos c0]; decide
  · rw [if_neg c0]
    by_cases c1 : r = 9218868437227405312
    · rw [if_pos c1]; decide
    · rw [if_neg c1]
      unfold uText zN
      have hb := nM_bd c0 (by omega : r < 9218868437227405312)
      have hE := nE_bd (by omega : r < 9218868437227405312)
      obtain ⟨hlow, hk⟩ := Lib.lowest_bit 64 (nM r) (by omega) (by omega)
      have h1 := nd_le (u := nM r / 2 ^ Lib.ctz 64 (nM r)) (Nat.lt_of_le_of_lt (Nat.div_le_self _ _) (by omega))
      have h2 := itoa_len (n := nE r + Lib.ctz 64 (nM r)) (by unfold I64; omega)
      rw [List.length_append, List.length_cons, Lib.decDigits_length]
      omega
theorem wrap_sign (s : Bool) (r : Nat) (h : r < 9223372036854775808) : decide (wrap64 ((double.word s r : Nat) : Int) < 0) = s := by
  rw [word_d]
  unfold wrap64
  cases s
  · apply decide_eq_false; simp; omega
  · apply decide_eq_true; simp; omega
set_option maxRecDepth 100000 in
theorem signbit_calls (x : Nat) (s : Bool) (hs : decide (wrap64 (x : Int) < 0) = s) (w : World) : Calls Tryz.prog 211 #[.float .f64 x] w fun e w' => e = .returned (.bool s) ∧ w = w' := by
  cases s
  · have h : ¬ wrap64 (x : Int) < 0 := of_decide_eq_false hs
    clear hs
    go_enter Tryz.func211, Tryz.ntmps211
    go_wp2
    go_ret
    exact ⟨rfl, rfl⟩
  · have h : wrap64 (x : Int) < 0 := of_decide_eq_true hs
    clear hs
    go_enter Tryz.func211, Tryz.ntmps211
    go_wp2
    go_ret
    exact ⟨rfl, rfl⟩
set_option maxRecDepth 100000 in
theorem text_nan (a : Int) (h : isN (fbits a) = true) (w : World) : Calls Tryz.prog 163 #[.int .i64 a] w fun e w' => e = .returned (.string ⟨#[110, 97, 110]⟩) ∧ Far w w' := by
  have ha := Lib.hid (tofloat_calls a)
  have hn := Lib.hid (isnan_calls _ true h)
  clear h
  generalize fbits a = x at *
  go_enter Tryz.func163, Tryz.ntmps163
  go_wp2_with fail
  refine (ha.out _).mono ?_
  rintro e w1 ⟨rfl, rfl⟩
  go_wp2_with fail
  refine (hn.out _).mono ?_
  rintro e w1 ⟨rfl, rfl⟩
  go_wp2_with fail
  go_ret
  exact ⟨rfl, Far.refl _⟩
/-- The text of a number. -/
def realText (s : Bool) (r : Nat) : List UInt8 := if s then 45 :: bodyText r else bodyText r
theorem isN_word (s : Bool) {r : Nat} (h : r ≤ 9218868437227405312) : isN (double.word s r) = false := by
  unfold isN
  by_cases k : r = 9218868437227405312
  · subst k; rw [read_inf]; rfl
  · rw [read_fin s (by omega)]; rfl
theorem join2 (x : List UInt8) (c : UInt8) : (⟨#[c]⟩ : ByteArray) ++ (⟨x.toArray⟩ : ByteArray) = ⟨(c :: x).toArray⟩ := by
  rw [ByteArray.mk_append_mk]
  congr 1
set_option maxRecDepth 100000 in
theorem text_word (a : Int) (s : Bool) (r : Nat) (hx : fbits a = double.word s r) (hi : r ≤ 9218868437227405312) (w : World) (g : Good w) :
    Calls Tryz.prog 163 #[.int .i64 a] w fun e w' => e = .returned (.string ⟨(realText s r).toArray⟩) ∧ Far w w' := by
  have ha := Lib.hid (tofloat_calls a)
  have hn := Lib.hid (isnan_calls (double.word s r) false (isN_word s hi))
  have hs := Lib.hid (signbit_calls _ s (wrap_sign s r (by omega)))
  rw [hx] at ha
  have hu := Lib.hid (utext_calls r hi)
  unfold realText
  cases s with
  | true =>
    rw [if_pos rfl]
    have e : negW (double.word true r) = r := by
      unfold negW
      rw [xor_sign true r (by omega)]
      exact word_f r
    have hl := body_len r hi
    have hj := join2 (bodyText r) 45
    rw [← hj]
    have sA : (⟨(bodyText r).toArray⟩ : ByteArray).size ≤ 43 := by rw [size_list]; exact hl
    generalize (⟨(bodyText r).toArray⟩ : ByteArray) = SA at *
    have k1 := fun W => run_string_add_sum (P := Tryz.prog) W ⟨#[45]⟩ SA (by have : (⟨#[45]⟩ : ByteArray).size = 1 := rfl; omega)
    clear hl hj sA hi
    generalize double.word true r = x at *
    have HX := Lib.hid hx
    clear hx
    go_enter Tryz.func163, Tryz.ntmps163
    go_wp2_with fail
    refine (ha.out _).mono ?_
    rintro e w1 ⟨rfl, rfl⟩
    go_wp2_with fail
    refine (hn.out _).mono ?_
    rintro e w1 ⟨rfl, rfl⟩
    go_wp2_with fail
    refine (hs.out _).mono ?_
    rintro e w1 ⟨rfl, rfl⟩
    go_wp2_with fail
    refine (hu.out _ g).mono ?_
    rintro e w1 ⟨rfl, hx⟩
    go_wp2_with fail
    go_ret
    exact ⟨rfl, hx⟩
  | false =>
    rw [if_neg (by decide)]
    rw [word_f] at *
    have HX := Lib.hid hx
    clear hx hi
    go_enter Tryz.func163, Tryz.ntmps163
    go_wp2_with fail
    refine (ha.out _).mono ?_
    rintro e w1 ⟨rfl, rfl⟩
    go_wp2_with fail
    refine (hn.out _).mono ?_
    rintro e w1 ⟨rfl, rfl⟩
    go_wp2_with fail
    refine (hs.out _).mono ?_
    rintro e w1 ⟨rfl, rfl⟩
    go_wp2_with fail
    refine (hu.out _ g).mono ?_
    rintro e w1 ⟨rfl, hx⟩
    go_wp2_with fail
    go_ret
    exact ⟨rfl, hx⟩
theorem dig1 (n : Nat) (h : n < 10) : Lib.decDigits n = [UInt8.ofNat (48 + n)] := by
  rw [Lib.decDigits]; rw [dif_pos h]
theorem shown_text : realText true 4598175219545276416 = [45, 49, 112, 45, 50] := by
  unfold realText bodyText uText
  rw [if_pos rfl, if_neg (by decide), if_neg (by decide)]
  have e1 : nM 4598175219545276416 / 2 ^ zN 4598175219545276416 = 1 := by decide +kernel
  have e2 : nE 4598175219545276416 + zN 4598175219545276416 = -2 := by decide +kernel
  rw [e1, e2]
  unfold Lib.itoa
  rw [if_pos (by decide), dig1 1 (by decide), dig1 _ (by decide)]
  rfl
theorem of1 : cellOf (ofF 1) = 4607182418800017408 := by decide +kernel
theorem ofm4 : cellOf (ofF (-4)) = -4607182418800017408 := by decide +kernel
theorem quo14 : resOf (double.div (fbits 4607182418800017408) (fbits (-4607182418800017408))) = -4625196817309499392 := by decide +kernel
theorem of53 : cellOf (ofF 9007199254740993) = cellOf (ofF 9007199254740992) := by decide +kernel
theorem shown_bits : fbits (-4625196817309499392) = double.word true 4598175219545276416 := by decide +kernel
end Go.Proofs.YtegcecpmdgljpaaGreatDoor

namespace Go.Proofs.YtegcecpmdgljpaaGreatDoor
open Go.RowKit Ieee
set_option linter.unusedVariables false

theorem fbits_cell {x : Nat} (h : x < 18446744073709551616) (hn : isN x = false) : fbits (cellOf x) = x := by
  unfold fbits cellOf
  rw [hn, if_neg (by decide), IntKind.wrap_u64]
  unfold wrap64
  omega
theorem cell_fbits {a : Int} (h : I64 a) (hn : isN (fbits a) = false) : cellOf (fbits a) = a := by
  unfold cellOf
  rw [hn, if_neg (by decide)]
  unfold fbits I64 at *
  rw [IntKind.wrap_u64]
  unfold wrap64
  omega
theorem nearest_form (s : Bool) (m : Nat) (p : Int) : ∃ r, r ≤ 9218868437227405312 ∧ double.nearest s m p = double.word s r := by
  unfold Format.nearest
  rw [d_inf]
  by_cases h : m = 0
  · rw [if_pos h]; exact ⟨0, by decide, rfl⟩
  · rw [if_neg h]; exact ⟨_, Nat.min_le_right _ _, rfl⟩
theorem word_lt64 (s : Bool) {r : Nat} (h : r < 9223372036854775808) : double.word s r < 18446744073709551616 := by
  rw [word_d]; cases s <;> simp <;> omega
theorem nearest_ok (s : Bool) (m : Nat) (p : Int) : double.nearest s m p < 18446744073709551616 ∧ isN (double.nearest s m p) = false := by
  obtain ⟨r, h, e⟩ := nearest_form s m p
  rw [e]
  exact ⟨word_lt64 s (by omega), isN_word s h⟩
theorem fbits_nearest (s : Bool) (m : Nat) (p : Int) : fbits (cellOf (double.nearest s m p)) = double.nearest s m p := fbits_cell (nearest_ok s m p).1 (nearest_ok s m p).2
theorem fbits_of (n : Int) : fbits (cellOf (ofF n)) = ofF n := fbits_nearest _ _ _
theorem fbits_half (n : Int) : fbits (cellOf (halfF n)) = halfF n := fbits_nearest _ _ _

theorem to_in (a : Int) (s : Bool) (M : Nat) (E : Int) (hx : double.read (fbits a) = .number s M E) (h : M < 9007199254740992) (hE : E < 11) (w : World) :
    Calls Tryz.prog 125 #[.int .i64 a] w fun e w' => e = .returned (.tuple #[.int .i64 (if s then -(tr M E : Int) else (tr M E : Int)), .int .i64 0]) ∧ w = w' := by
  obtain ⟨c, d⟩ := flt_range _ s M E hx h hE
  have ht := tr_lt h hE
  exact to_yes a _ c d (val_of_read _ s M E hx _ rfl (by cases s <;> simp <;> omega)) w
theorem to_low (a : Int) (hx : double.read (fbits a) = .number true 4503599627370496 11) (w : World) :
    Calls Tryz.prog 125 #[.int .i64 a] w fun e w' => e = .returned (.tuple #[.int .i64 (-9223372036854775808), .int .i64 0]) ∧ w = w' := by
  obtain ⟨c, d⟩ := is_low _ hx
  exact to_yes a _ c d (val_of_read _ true _ _ hx _ (by decide +kernel) (by decide)) w
theorem to_out (a : Int) (h : isN (fbits a) = true ∨ (∃ s, double.read (fbits a) = .infinity s) ∨ ∃ s M E, double.read (fbits a) = .number s M E ∧ 4503599627370496 ≤ M ∧ 11 ≤ E ∧ ¬ (s = true ∧ M = 4503599627370496 ∧ E = 11)) (w : World) :
    Calls Tryz.prog 125 #[.int .i64 a] w fun e w' => e = .returned (.tuple #[.int .i64 0, .int .i64 (-43)]) ∧ w = w' := by
  refine to_no a ?_ w
  rcases h with h | ⟨s, h⟩ | ⟨s, M, E, hx, hM, hE, hn⟩
  · exact Or.inr (nan_out _ h)
  · exact inf_out _ s h
  · cases s
    · exact Or.inr (not_above _ M E hx hM hE)
    · exact Or.inl (not_low _ M E hx hM hE (fun q => hn ⟨rfl, q⟩))
/-- Each float is no number, or a sign and a rung. -/
theorem fbits_split (a : Int) : isN (fbits a) = true ∨ ∃ s r, fbits a = double.word s r ∧ r ≤ 9218868437227405312 := by
  have h := word_split (fbits a) (fbits_lt a)
  have hr : fbits a % 9223372036854775808 < 9223372036854775808 := Nat.mod_lt _ (by decide)
  by_cases k : fbits a % 9223372036854775808 ≤ 9218868437227405312
  · exact Or.inr ⟨_, _, h, k⟩
  · left
    rw [h]
    unfold isN
    rw [read_word _ _ hr, if_neg (by omega), if_neg (by omega)]
    rfl
end Go.Proofs.YtegcecpmdgljpaaGreatDoor
