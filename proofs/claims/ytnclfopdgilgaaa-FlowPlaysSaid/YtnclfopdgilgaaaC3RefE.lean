/- The document's answers for layer 3: numbers with a sign as text. Condition: cells are integers of 64 bits, the base is from 2 to 36. -/
import Derived.Test.YtnclfopdgilgaaaC3RefD
namespace Go.Proofs.Ytnclfopdgilgaaa
open Go.RowKit
set_option linter.unusedVariables false

theorem neg_nat (a c : Int) (ha : I64 a) (hc : I64 c) (hn : c < 0) : ∃ M : Nat, -V a c = (M : Int) ∧ M < two128 := by
  have h1 := V_neg a c ha hc
  have h2 := V_bd (l := a) hc
  obtain ⟨M, hM⟩ := Int.eq_ofNat_of_zero_le (show 0 ≤ -V a c by omega)
  exact ⟨M, hM, by unfold two128; omega⟩
/-- The text of a number with its sign. -/
def signed (B : Nat) (P : Nat) (v : Int) : List UInt8 := if v < 0 then 45 :: text B (-v).toNat else text B P
theorem rsigned_calls (w0 : World) (a c b : Int) (ha : I64 a) (hc : I64 c) (P B : Nat) (hP : W a c = P) (hb : b = B) (h2 : 2 ≤ B) (h36 : B ≤ 36) (w : World) (h : Ext w0 w) :
    Calls Try.prog 39 #[.agg #[.int .i64 a, .int .i64 c], .int .i64 b] w fun e w' => e = .returned (.string (bytes (signed B P (V a c)))) ∧ Ext w0 w' := by
  have hsg := V_neg a c ha hc
  by_cases hn : c < 0
  · obtain ⟨M, hM, hMl⟩ := neg_nat a c ha hc hn
    have hr := Lib.hid (rright_calls b)
    have hd : decide (2 ≤ b ∧ b ≤ 36) = true := decide_eq_true ⟨by omega, by omega⟩
    rw [hd] at hr
    have e : signed B P (V a c) = 45 :: text B M := by
      unfold signed
      rw [if_pos (hsg.2 hn), hM, Int.toNat_natCast]
    rw [e]
    have hx := fun W' => rneg_calls W' a c ha hc W' (Ext.refl W')
    rw [hM] at hx
    have cN := Lib.hid hx
    clear hx
    have cT := Lib.hid (fun W' => rtext_calls W' (lo (M : Int)) (hi (M : Int)) b (lo_i64 _) (hi_i64 _) M B (W_of M hMl) hb h2 h36 W' (Ext.refl W'))
    have had := add_byte 45 (text B M) (by have := text_length B M h2 hMl; omega)
    rw [show bytes [45] = (⟨#[45]⟩ : ByteArray) from rfl] at had
    clear e hd hsg hM hMl ha hc hP hb h2 h36
    generalize lo (M : Int) = m0 at *
    generalize hi (M : Int) = m1 at *
    generalize text B M = t at *
    go_enter Try.func39, Try.ntmps39
    go_wp2_with fail
    refine (hr.out _).mono ?_
    rintro e w1 ⟨rfl, rfl⟩
    have hX := h.cells #[.int .i64 a, .int .i64 c] 84
    go_wp2_with fail
    refine (cN.out _).mono ?_
    rintro e w2 ⟨rfl, hx⟩
    replace hX := hX.trans hx
    clear hx
    go_wp2_with fail
    refine (cT.out _).mono ?_
    rintro e w3 ⟨rfl, hx⟩
    replace hX := hX.trans hx
    clear hx
    go_wp2_with fail
    go_ret
    exact ⟨rfl, hX⟩
  · have e : signed B P (V a c) = text B P := by
      unfold signed
      rw [if_neg (fun h => hn (hsg.1 h))]
    rw [e]
    have cT := Lib.hid (fun W' => rtext_calls W' a c b ha hc P B hP hb h2 h36 W' (Ext.refl W'))
    have hn' : 0 ≤ c := by omega
    have dn : decide (c < 0) = false := by simpa using hn
    clear e hsg ha hc hP hb h2 h36
    generalize text B P = t at *
    go_enter Try.func39, Try.ntmps39
    go_wp2_with fail
    have hX := h.cells #[.int .i64 a, .int .i64 c] 84
    refine (cT.out _).mono ?_
    rintro e w3 ⟨rfl, hx⟩
    replace hX := hX.trans hx
    clear hx
    go_wp2_with fail
    go_ret
    exact ⟨rfl, hX⟩
end Go.Proofs.Ytnclfopdgilgaaa
