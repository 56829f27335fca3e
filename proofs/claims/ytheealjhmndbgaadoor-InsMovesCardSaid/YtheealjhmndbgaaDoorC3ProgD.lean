/- Layer 3 (package digit): numbers with a sign as text; the base that a text tells. Condition: cells are integers of 64 bits, the base is from 2 to 36. -/
import Derived.Test.YtheealjhmndbgaaDoorC3ProgC
import Derived.Test.YtheealjhmndbgaaDoorC3RefF
namespace Go.Proofs.YtheealjhmndbgaaDoor
open Go.RowKit
set_option linter.unusedVariables false

theorem signed_calls (a c b : Int) (ha : I64 a) (hc : I64 c) (P B : Nat) (hP : W a c = P) (hb : b = B) (h2 : 2 ≤ B) (h36 : B ≤ 36) (w : World) :
    Calls Tryd.prog 39 #[.agg #[.int .i64 a, .int .i64 c], .int .i64 b] w fun e w' => e = .returned (.string (bytes (signed B P (V a c)))) ∧ Ext w w' := by
  have hsg := V_neg a c ha hc
  by_cases hn : c < 0
  · obtain ⟨M, hM, hMl⟩ := neg_nat a c ha hc hn
    have hr := Lib.hid (isbase_calls b)
    have hd : decide (2 ≤ b ∧ b ≤ 36) = true := decide_eq_true ⟨by omega, by omega⟩
    rw [hd] at hr
    have e : signed B P (V a c) = 45 :: text B M := by
      unfold signed
      rw [if_pos (hsg.2 hn), hM, Int.toNat_natCast]
    rw [e]
    have hx := fun W' => neg_calls W' a c ha hc W' (Ext.refl W')
    rw [hM] at hx
    have cN := Lib.hid hx
    clear hx
    have cT := Lib.hid (fun W' => text_calls (lo (M : Int)) (hi (M : Int)) b (lo_i64 _) (hi_i64 _) M B (W_of M hMl) hb h2 h36 W')
    have had := add_byte 45 (text B M) (by have := text_length B M h2 hMl; omega)
    rw [show bytes [45] = (⟨#[45]⟩ : ByteArray) from rfl] at had
    clear e hd hsg hM hMl ha hc hP hb h2 h36
    generalize lo (M : Int) = m0 at *
    generalize hi (M : Int) = m1 at *
    generalize text B M = t at *
    go_enter Tryd.func39, Tryd.ntmps39
    go_wp2_with fail
    refine (hr.out _).mono ?_
    rintro e w1 ⟨rfl, rfl⟩
    have hX := (Ext.refl w).cells #[.int .i64 a, .int .i64 c] 57
    go_wp2_with fail
    refine (cN.out _).mono ?_
    rintro e w2 ⟨rfl, hx⟩
    replace hX := hX.trans hx
    clear hx
    go_wp2_with fail
    refine (cT.out _).mono ?_
    rintro e w3 ⟨rfl, hx⟩
    replace hX := hX.trans hx
    clear hx
    go_wp2_with fail
    go_ret
    exact ⟨rfl, hX⟩
  · have e : signed B P (V a c) = text B P := by
      unfold signed
      rw [if_neg (fun h => hn (hsg.1 h))]
    rw [e]
    have cT := Lib.hid (fun W' => text_calls a c b ha hc P B hP hb h2 h36 W')
    have hn' : 0 ≤ c := by omega
    have dn : decide (c < 0) = false := by simpa using hn
    clear e hsg ha hc hP hb h2 h36
    generalize text B P = t at *
    go_enter Tryd.func39, Tryd.ntmps39
    go_wp2_with fail
    have hX := (Ext.refl w).cells #[.int .i64 a, .int .i64 c] 57
    refine (cT.out _).mono ?_
    rintro e w3 ⟨rfl, hx⟩
    replace hX := hX.trans hx
    clear hx
    go_wp2_with fail
    go_ret
    exact ⟨rfl, hX⟩
/-- A text without its first letters. -/
def sub (s : ByteArray) (k : Nat) : ByteArray := if k = 0 then s else s.extract k s.size
theorem sub_list (s : ByteArray) (k : Nat) : (sub s k).data.toList = s.data.toList.drop k := by
  unfold sub
  split
  · next h => subst h; rfl
  · exact extract_list s k
theorem some_byte (s : ByteArray) (h : 0 < s.size) : s.toList.isEmpty = false := by
  rw [Lib.toList_data]
  cases hl : s.data.toList with
  | nil =>
    have := congrArg List.length hl
    have h2 : s.data.toList.length = s.size := rfl
    rw [h2, List.length_nil] at this
    exact absurd h (by rw [this]; exact Nat.lt_irrefl _)
  | cons _ _ => rfl
theorem no_byte (s : ByteArray) (h : ¬ 0 < s.size) : s = ⟨#[]⟩ := by
  have h2 : s.data = #[] := Array.eq_empty_of_size_eq_zero (Nat.eq_zero_of_not_pos h)
  cases s
  simp only at h2
  rw [h2]
theorem pre_nil (B : Nat) : pre B [] = (B, 0) := by simp [pre]
end Go.Proofs.YtheealjhmndbgaaDoor
