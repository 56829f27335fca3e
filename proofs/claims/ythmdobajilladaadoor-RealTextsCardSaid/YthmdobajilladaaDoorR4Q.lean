/- Layer 4: the number that the text of a number is. No condition. -/
import Derived.Test.YthmdobajilladaaDoorR4N
import Derived.Test.YthmdobajilladaaDoorR4J
import Derived.Test.YthmdobajilladaaDoorNumU
namespace Go.Proofs.YthmdobajilladaaDoor
open Go.RowKit Ieee
set_option linter.unusedVariables false

theorem tz_exact (x : Nat) (hx : x < 18446744073709551616) (h0 : x ≠ 0) : x = x / 2 ^ Lib.ctz 64 x * 2 ^ Lib.ctz 64 x ∧ x / 2 ^ Lib.ctz 64 x % 2 = 1 := by
  obtain ⟨m, hm, hk⟩ := Lib.ctzFrom_spec 64 x (by omega) (by omega)
  have e : Lib.ctz 64 x = Lib.ctzFrom 64 x := by unfold Lib.ctz; rw [if_neg h0]
  rw [e]
  have d : x / 2 ^ Lib.ctzFrom 64 x = 2 * m + 1 := by
    conv => lhs; lhs; rw [hm]
    exact Nat.mul_div_cancel_left _ (Nat.two_pow_pos _)
  rw [d]
  exact ⟨by rw [Nat.mul_comm]; exact hm, by omega⟩
/-- What a number's text says: a whole number and a power. -/
theorem body_parts (r : Nat) (h : r < 9218868437227405312) : ∃ (m : Nat) (e : Int), bodyText r = Lib.decDigits m ++ 112 :: Lib.itoa e ∧ m ≤ 9007199254740992 ∧ -1200 ≤ e ∧ e ≤ 1200 ∧ (m = 0 → r = 0) ∧ (m ≠ 0 → Eqv m e (rM r) (rE r)) := by
  by_cases c0 : r = 0
  · subst c0
    refine ⟨0, 0, ?_, by decide, by decide, by decide, fun _ => rfl, fun q => absurd rfl q⟩
    unfold bodyText
    rw [if_pos rfl, dig1 0 (by decide)]
    unfold Lib.itoa
    rw [if_neg (by decide), show (0 : Int).toNat = 0 from rfl, dig1 0 (by decide)]
    rfl
  · have hb := nM_bd c0 h
    have hE := nE_bd h
    obtain ⟨hx, ho⟩ := tz_exact (nM r) (by omega) (by omega)
    obtain ⟨_, hk⟩ := Lib.lowest_bit 64 (nM r) (by omega) (by omega)
    refine ⟨nM r / 2 ^ zN r, nE r + zN r, ?_, ?_, ?_, ?_, ?_, ?_⟩
    · unfold bodyText
      rw [if_neg c0, if_neg (by omega)]
      rfl
    · exact Nat.le_trans (Nat.div_le_self _ _) (by omega)
    · unfold zN; omega
    · unfold zN; omega
    · intro q
      unfold zN at q
      rw [q] at ho
      cases ho
    · intro _
      have e1 : Eqv (nM r / 2 ^ zN r) (nE r + zN r) (nM r) (nE r) := Or.inr ⟨zN r, hx, by omega⟩
      exact eqv_trans e1 (eqv_symm (eqv_n r))
theorem text_minus (s : Bool) (r : Nat) (h : r < 9218868437227405312) : isMinus (realText s r) = s ∧ unMinus (realText s r) = bodyText r := by
  obtain ⟨m, e, hb, _⟩ := body_parts r h
  unfold realText
  cases s
  · rw [if_neg (by decide), hb]
    exact minus_dig _ _ (dec_all m) (dec_ne m)
  · rw [if_pos rfl]
    exact ⟨rfl, rfl⟩
theorem num_text (s : Bool) (r : Nat) (h : r < 9218868437227405312) : numR (realText s r) = (cellOf (double.word s r), true) := by
  obtain ⟨m, e, hb, m1, e1, e2, hz, hv⟩ := body_parts r h
  obtain ⟨t1, t2⟩ := text_minus s r h
  have hsp := spl_dec (Lib.decDigits m) (Lib.itoa e) (dec_all m)
  have hA : numA (realText s r) = Lib.decDigits m := by unfold numA; rw [t2, hb, hsp]
  have hB : numB (realText s r) = Lib.itoa e := by unfold numB; rw [t2, hb, hsp]
  obtain ⟨i1, i2⟩ := minus_itoa e
  have d1 := digs_dec m 15 (by have : (10 : Nat) ^ (15 + 1) = 10000000000000000 := by decide
                               omega)
  have d2 := digs_dec e.natAbs 3 (by have : (10 : Nat) ^ (3 + 1) = 10000 := by decide
                                     omega)
  have hp : numP (realText s r) e.natAbs = e := by
    unfold numP
    rw [hB, i1]
    by_cases c : e < 0
    · rw [decide_eq_true c, if_pos rfl]; omega
    · rw [decide_eq_false c, if_neg (by decide)]; omega
  have hy : numY (realText s r) m e.natAbs = r ∧ numOk (realText s r) m e.natAbs = true := by
    unfold numOk numY
    rw [hp]
    by_cases c : m = 0
    · have hr := hz c
      subst c hr
      have z : ofF ((0 : Nat) : Int) = 0 := by decide +kernel
      rw [z]
      have z2 : ∀ p, ldW 0 p = 0 := fun p => by unfold ldW; rw [if_pos rfl]
      rw [z2, z2, order_eq (by decide)]
      exact ⟨rfl, rfl⟩
    · obtain ⟨a, b⟩ := ld_exact m c m1 e (rung_can h) (hv c)
      rw [rung_back h] at a b
      rw [a, b, order_eq (ofF_le m)]
      exact ⟨rfl, rfl⟩
  unfold numR
  rw [hA, hB, i2, d1, d2]
  simp only
  rw [if_pos m1, hy.2, if_pos rfl, hy.1, t1]
  cases s
  · rw [word_f]; rfl
  · rw [if_pos rfl]
    have := xor_sign false r (by omega)
    rw [word_f] at this
    unfold negW
    rw [this]; rfl
theorem num_nan : numR [110, 97, 110] = (0, false) := by decide +kernel
theorem num_inf (s : Bool) : numR (realText s 9218868437227405312) = (0, false) := by cases s <;> decide +kernel
theorem text_p (s : Bool) (r : Nat) (h : r < 9218868437227405312) : (112 : UInt8) ∈ realText s r := by
  obtain ⟨m, e, hb, _⟩ := body_parts r h
  have : (112 : UInt8) ∈ bodyText r := by rw [hb]; simp
  unfold realText
  cases s
  · rw [if_neg (by decide)]; exact this
  · rw [if_pos rfl]; exact List.mem_cons_of_mem _ this
theorem rtext_ne (s : Bool) (r : Nat) (h : r < 9218868437227405312) (l : List UInt8) (hl : (112 : UInt8) ∉ l) : ((bs (realText s r)).toList == l) = false := by
  rw [toList_mk]
  apply beq_eq_false_iff_ne.2
  intro q
  have := text_p s r h
  rw [q] at this
  exact hl this
end Go.Proofs.YthmdobajilladaaDoor
