/- Layer 4 (package real): Text of each cell; the document's examples. No condition. -/
import Derived.Test.YthmdobajilladaaDoorR4F
namespace Go.Proofs.YthmdobajilladaaDoor
open Go.RowKit Ieee
set_option linter.unusedVariables false

/-- The text of a number without a sign. -/
def bodyText (r : Nat) : List UInt8 := if r = 0 then [48, 112, 48] else if r = 9218868437227405312 then [105, 110, 102] else uText r
set_option maxRecDepth 100000 in
theorem utext_zero (w : World) : Calls Tryd.prog 34 #[.float .f64 0] w fun e w' => e = .returned (.string ⟨#[48, 112, 48]⟩) ∧ Far w w' := by
  have hz : (FloatKind.f64.format.order 0 0 == some .eq) = true := by rw [f64_order, order_eq (by decide)]; rfl
  go_enter Tryd.func34, Tryd.ntmps34
  go_wp2_with fail
  go_ret
  exact ⟨rfl, Far.refl _⟩
set_option maxRecDepth 100000 in
theorem utext_inf (w : World) : Calls Tryd.prog 34 #[.float .f64 9218868437227405312] w fun e w' => e = .returned (.string ⟨#[105, 110, 102]⟩) ∧ Far w w' := by
  have hz := order_zero (r := 9218868437227405312) (by decide) (by decide)
  have hI := Lib.hid (isinf1_calls 9218868437227405312 (by decide))
  rw [decide_eq_true rfl] at hI
  go_enter Tryd.func34, Tryd.ntmps34
  go_wp2_with fail
  refine (hI.out _).mono ?_
  rintro e w1 ⟨rfl, rfl⟩
  go_wp2_with fail
  go_ret
  exact ⟨rfl, Far.refl _⟩
theorem utext_calls (r : Nat) (hi : r ≤ 9218868437227405312) (w : World) (g : Good w) :
    Calls Tryd.prog 34 #[.float .f64 r] w fun e w' => e = .returned (.string ⟨(bodyText r).toArray⟩) ∧ Far w w' := by
  unfold bodyText
  by_cases c0 : r = 0
  · rw [if_pos c0]; subst c0; exact utext_zero w
  · rw [if_neg c0]
    by_cases c1 : r = 9218868437227405312
    · rw [if_pos c1]; subst c1; exact utext_inf w
    · rw [if_neg c1]; exact utext_fin r c0 (by omega) w g
theorem body_len (r : Nat) (hi : r ≤ 9218868437227405312) : (bodyText r).length ≤ 43 := by
  unfold bodyText
  by_cases c0 : r = 0
  · rw [if_pos c0]; decide
  · rw [if_neg c0]
    by_cases c1 : r = 9218868437227405312
    · rw [if_pos c1]; decide
    · rw [if_neg c1]
      unfold uText zN
      have hb := nM_bd c0 (by omega : r < 9218868437227405312)
      have hE := nE_bd (by omega : r < 9218868437227405312)
      obtain ⟨hlow, hk⟩ := Lib.lowest_bit 64 (nM r) (by omega) (by omega)
      have h1 := nd_le (u := nM r / 2 ^ Lib.ctz 64 (nM r)) (Nat.lt_of_le_of_lt (Nat.div_le_self _ _) (by omega))
      have h2 := itoa_len (n := nE r + Lib.ctz 64 (nM r)) (by unfold I64; omega)
      rw [List.length_append, List.length_cons, Lib.decDigits_length]
      omega
theorem wrap_sign (s : Bool) (r : Nat) (h : r < 9223372036854775808) : decide (wrap64 ((double.word s r : Nat) : Int) < 0) = s := by
  rw [word_d]
  unfold wrap64
  cases s
  · apply decide_eq_false; simp; omega
  · apply decide_eq_true; simp; omega
set_option maxRecDepth 100000 in
theorem signbit_calls (x : Nat) (s : Bool) (hs : decide (wrap64 (x : Int) < 0) = s) (w : World) : Calls Tryd.prog 33 #[.float .f64 x] w fun e w' => e = .returned (.bool s) ∧ w = w' := by
  cases s
  · have h : ¬ wrap64 (x : Int) < 0 := of_decide_eq_false hs
    clear hs
    go_enter Tryd.func33, Tryd.ntmps33
    go_wp2
    go_ret
    exact ⟨rfl, rfl⟩
  · have h : wrap64 (x : Int) < 0 := of_decide_eq_true hs
    clear hs
    go_enter Tryd.func33, Tryd.ntmps33
    go_wp2
    go_ret
    exact ⟨rfl, rfl⟩
set_option maxRecDepth 100000 in
theorem text_nan (a : Int) (h : isN (fbits a) = true) (w : World) : Calls Tryd.prog 11 #[.int .i64 a] w fun e w' => e = .returned (.string ⟨#[110, 97, 110]⟩) ∧ Far w w' := by
  have ha := Lib.hid (tofloat_calls a)
  have hn := Lib.hid (isnan_calls _ true h)
  clear h
  generalize fbits a = x at *
  go_enter Tryd.func11, Tryd.ntmps11
  go_wp2_with fail
  refine (ha.out _).mono ?_
  rintro e w1 ⟨rfl, rfl⟩
  go_wp2_with fail
  refine (hn.out _).mono ?_
  rintro e w1 ⟨rfl, rfl⟩
  go_wp2_with fail
  go_ret
  exact ⟨rfl, Far.refl _⟩
/-- The text of a number. -/
def realText (s : Bool) (r : Nat) : List UInt8 := if s then 45 :: bodyText r else bodyText r
theorem isN_word (s : Bool) {r : Nat} (h : r ≤ 9218868437227405312) : isN (double.word s r) = false := by
  unfold isN
  by_cases k : r = 9218868437227405312
  · subst k; rw [read_inf]; rfl
  · rw [read_fin s (by omega)]; rfl
theorem join2 (x : List UInt8) (c : UInt8) : (⟨#[c]⟩ : ByteArray) ++ (⟨x.toArray⟩ : ByteArray) = ⟨(c :: x).toArray⟩ := by
  rw [ByteArray.mk_append_mk]
  congr 1
set_option maxRecDepth 100000 in
theorem text_word (a : Int) (s : Bool) (r : Nat) (hx : fbits a = double.word s r) (hi : r ≤ 9218868437227405312) (w : World) (g : Good w) :
    Calls Tryd.prog 11 #[.int .i64 a] w fun e w' => e = .returned (.string ⟨(realText s r).toArray⟩) ∧ Far w w' := by
  have ha := Lib.hid (tofloat_calls a)
  have hn := Lib.hid (isnan_calls (double.word s r) false (isN_word s hi))
  have hs := Lib.hid (signbit_calls _ s (wrap_sign s r (by omega)))
  rw [hx] at ha
  have hu := Lib.hid (utext_calls r hi)
  unfold realText
  cases s with
  | true =>
    rw [if_pos rfl]
    have e : negW (double.word true r) = r := by
      unfold negW
      rw [xor_sign true r (by omega)]
      exact word_f r
    have hl := body_len r hi
    have hj := join2 (bodyText r) 45
    rw [← hj]
    have sA : (⟨(bodyText r).toArray⟩ : ByteArray).size ≤ 43 := by rw [size_list]; exact hl
    generalize (⟨(bodyText r).toArray⟩ : ByteArray) = SA at *
    have k1 := fun W => run_string_add_sum (P := Tryd.prog) W ⟨#[45]⟩ SA (by have : (⟨#[45]⟩ : ByteArray).size = 1 := rfl; omega)
    clear hl hj sA hi
    generalize double.word true r = x at *
    have HX := Lib.hid hx
    clear hx
    go_enter Tryd.func11, Tryd.ntmps11
    go_wp2_with fail
    refine (ha.out _).mono ?_
    rintro e w1 ⟨rfl, rfl⟩
    go_wp2_with fail
    refine (hn.out _).mono ?_
    rintro e w1 ⟨rfl, rfl⟩
    go_wp2_with fail
    refine (hs.out _).mono ?_
    rintro e w1 ⟨rfl, rfl⟩
    go_wp2_with fail
    refine (hu.out _ g).mono ?_
    rintro e w1 ⟨rfl, hx⟩
    go_wp2_with fail
    go_ret
    exact ⟨rfl, hx⟩
  | false =>
    rw [if_neg (by decide)]
    rw [word_f] at *
    have HX := Lib.hid hx
    clear hx hi
    go_enter Tryd.func11, Tryd.ntmps11
    go_wp2_with fail
    refine (ha.out _).mono ?_
    rintro e w1 ⟨rfl, rfl⟩
    go_wp2_with fail
    refine (hn.out _).mono ?_
    rintro e w1 ⟨rfl, rfl⟩
    go_wp2_with fail
    refine (hs.out _).mono ?_
    rintro e w1 ⟨rfl, rfl⟩
    go_wp2_with fail
    refine (hu.out _ g).mono ?_
    rintro e w1 ⟨rfl, hx⟩
    go_wp2_with fail
    go_ret
    exact ⟨rfl, hx⟩
theorem dig1 (n : Nat) (h : n < 10) : Lib.decDigits n = [UInt8.ofNat (48 + n)] := by
  rw [Lib.decDigits]; rw [dif_pos h]
theorem shown_text : realText true 4598175219545276416 = [45, 49, 112, 45, 50] := by
  unfold realText bodyText uText
  rw [if_pos rfl, if_neg (by decide), if_neg (by decide)]
  have e1 : nM 4598175219545276416 / 2 ^ zN 4598175219545276416 = 1 := by decide +kernel
  have e2 : nE 4598175219545276416 + zN 4598175219545276416 = -2 := by decide +kernel
  rw [e1, e2]
  unfold Lib.itoa
  rw [if_pos (by decide), dig1 1 (by decide), dig1 _ (by decide)]
  rfl
theorem of1 : cellOf (ofF 1) = 4607182418800017408 := by decide +kernel
theorem ofm4 : cellOf (ofF (-4)) = -4607182418800017408 := by decide +kernel
theorem quo14 : resOf (double.div (fbits 4607182418800017408) (fbits (-4607182418800017408))) = -4625196817309499392 := by decide +kernel
theorem of53 : cellOf (ofF 9007199254740993) = cellOf (ofF 9007199254740992) := by decide +kernel
theorem shown_bits : fbits (-4625196817309499392) = double.word true 4598175219545276416 := by decide +kernel
set_option maxRecDepth 100000 in
theorem shown4_calls (w : World) (g : Good w) : Calls Tryd.prog 8 #[] w fun e w' => e = .returned (.bool true) ∧ Far w w' := by
  have h1 := of_calls 1
  rw [of1] at h1
  have h4 := of_calls (-4)
  rw [ofm4] at h4
  have hq := two_quo 4607182418800017408 (-4607182418800017408)
  rw [quo14] at hq
  have ht := text_word (-4625196817309499392) true 4598175219545276416 shown_bits (by decide)
  rw [shown_text] at ht
  have ha := of_calls 9007199254740993
  have hb := of_calls 9007199254740992
  rw [of53] at ha
  generalize cellOf (ofF 9007199254740992) = c at *
  have H1 := Lib.hid h1
  have H4 := Lib.hid h4
  have HQ := Lib.hid hq
  have HT := Lib.hid ht
  have HA := Lib.hid ha
  have HB := Lib.hid hb
  clear h1 h4 hq ht ha hb
  go_enter Tryd.func8, Tryd.ntmps8
  go_wp2_with fail
  refine (H1.out _).mono ?_
  rintro e w1 ⟨rfl, rfl⟩
  go_wp2_with fail
  refine (H4.out _).mono ?_
  rintro e w1 ⟨rfl, rfl⟩
  go_wp2_with fail
  refine (HQ.out _).mono ?_
  rintro e w1 ⟨rfl, hx⟩
  go_wp2_with fail
  refine (HT.out _ (g.far hx.far)).mono ?_
  rintro e w2 ⟨rfl, hy⟩
  go_wp2_with fail
  refine (HA.out _).mono ?_
  rintro e w3 ⟨rfl, rfl⟩
  go_wp2_with fail
  refine (HB.out _).mono ?_
  rintro e w3 ⟨rfl, rfl⟩
  go_wp2_with fail
  go_ret
  exact ⟨rfl, hx.far.trans hy⟩
end Go.Proofs.YthmdobajilladaaDoor
