/- The document's answers for layer 3 (package rhytonref03): letters, digits. Condition: numbers of 64 bits. -/
import Derived.Test.YtnclfopdgilgaaaC2RefD
import Derived.Test.YtnclfopdgilgaaaDigit
namespace Go.Proofs.Ytnclfopdgilgaaa
open Go.RowKit
set_option linter.unusedVariables false

theorem letters_fin : ∀ n : Fin 36, (⟨#[48, 49, 50, 51, 52, 53, 54, 55, 56, 57, 65, 66, 67, 68, 69, 70, 71, 72, 73, 74, 75, 76, 77, 78, 79, 80, 81, 82, 83, 84, 85, 86, 87, 88, 89, 90]⟩ : ByteArray).data[n.val]? = some (letter n.val) := by decide +kernel
theorem letters_at (n : Nat) (h : n < (⟨#[48, 49, 50, 51, 52, 53, 54, 55, 56, 57, 65, 66, 67, 68, 69, 70, 71, 72, 73, 74, 75, 76, 77, 78, 79, 80, 81, 82, 83, 84, 85, 86, 87, 88, 89, 90]⟩ : ByteArray).size) : (⟨#[48, 49, 50, 51, 52, 53, 54, 55, 56, 57, 65, 66, 67, 68, 69, 70, 71, 72, 73, 74, 75, 76, 77, 78, 79, 80, 81, 82, 83, 84, 85, 86, 87, 88, 89, 90]⟩ : ByteArray)[n] = letter n := by
  have h2 : n < 36 := h
  have e := letters_fin ⟨n, h2⟩
  have e2 : (⟨#[48, 49, 50, 51, 52, 53, 54, 55, 56, 57, 65, 66, 67, 68, 69, 70, 71, 72, 73, 74, 75, 76, 77, 78, 79, 80, 81, 82, 83, 84, 85, 86, 87, 88, 89, 90]⟩ : ByteArray).data[n]? = some ((⟨#[48, 49, 50, 51, 52, 53, 54, 55, 56, 57, 65, 66, 67, 68, 69, 70, 71, 72, 73, 74, 75, 76, 77, 78, 79, 80, 81, 82, 83, 84, 85, 86, 87, 88, 89, 90]⟩ : ByteArray)[n]) := Array.getElem?_eq_getElem h
  rw [e2] at e
  exact Option.some.inj e
theorem ret_u8 {a b : Int} (h : a = b) : Ending.returned (.int .u8 a) = .returned (.int .u8 b) := by rw [h]
theorem rright_calls (b : Int) (w : World) : Calls Try.prog 59 #[.int .i64 b] w fun e w' => e = .returned (.bool (decide (2 ≤ b ∧ b ≤ 36))) ∧ w = w' := by
  by_cases h1 : 2 ≤ b
  · by_cases h2 : b ≤ 36
    · rw [decide_eq_true (And.intro h1 h2)]
      go_enter Try.func59, Try.ntmps59
      go_wp2
      go_ret
      exact ⟨rfl, rfl⟩
    · rw [decide_eq_false (fun h => h2 h.2)]
      have h3 : 36 < b := by omega
      go_enter Try.func59, Try.ntmps59
      go_wp2
      go_ret
      exact ⟨rfl, rfl⟩
  · rw [decide_eq_false (fun h => h1 h.1)]
    have h3 : b < 2 := by omega
    go_enter Try.func59, Try.ntmps59
    go_wp2
    go_ret
    exact ⟨rfl, rfl⟩
/-- What Value tells: the digit, and whether there is one. -/
def vN (c : UInt8) (b : Nat) : Nat := (valueOf c b).getD 0
def vB (c : UInt8) (b : Nat) : Bool := (valueOf c b).isSome
/-- Does the letter of a digit, great or small, equal a byte? -/
def hit (c : UInt8) (i : Nat) : Bool := letter i == c || (decide (9 < i) && letter i + 32 == c)
theorem hit_val : ∀ i : Fin 36, ∀ c : Fin 256, hit c.val.toUInt8 i.val = true → vdig c.val.toUInt8 = some i.val := by decide +kernel
theorem val_hit : ∀ c : Fin 256, ∀ d, vdig c.val.toUInt8 = some d → d < 36 ∧ hit c.val.toUInt8 d = true := by
  intro c d h
  have key : ∀ c : Fin 256, (match vdig c.val.toUInt8 with | some d => decide (d < 36) && hit c.val.toUInt8 d | none => true) = true := by decide +kernel
  have := key c
  rw [h] at this
  simpa using this
theorem hit_iff (c : UInt8) (i : Nat) (hi : i < 36) : hit c i = true ↔ vdig c = some i := by
  have hc : c = (⟨c.toNat, c.toNat_lt⟩ : Fin 256).val.toUInt8 := by simp
  constructor
  · intro h
    rw [hc] at h ⊢
    exact hit_val ⟨i, hi⟩ _ h
  · intro h
    rw [hc] at h ⊢
    exact (val_hit _ _ h).2
theorem letter_bd : ∀ i : Fin 36, 48 ≤ (letter i.val).toNat ∧ (letter i.val).toNat ≤ 90 := by decide +kernel
theorem hit_nat (c : UInt8) (i : Nat) (hi : i < 36) : hit c i = (((letter i).toNat : Int) == (c.toNat : Int) || (decide (9 < i) && ((letter i).toNat : Int) + 32 == (c.toNat : Int))) := by
  have hb := letter_bd ⟨i, hi⟩
  simp only at hb
  have e1 : (letter i == c) = (((letter i).toNat : Int) == (c.toNat : Int)) := by
    rw [Bool.eq_iff_iff, beq_iff_eq, beq_iff_eq, ← UInt8.toNat_inj]; omega
  have e2 : (letter i + 32 == c) = (((letter i).toNat : Int) + 32 == (c.toNat : Int)) := by
    rw [Bool.eq_iff_iff, beq_iff_eq, beq_iff_eq, ← UInt8.toNat_inj, UInt8.toNat_add]
    have : (32 : UInt8).toNat = 32 := rfl
    omega
  unfold hit
  rw [e1, e2]
theorem no_value (c : UInt8) (b : Nat) (h : ∀ j, j < b → j < 36 → hit c j = false) : valueOf c b = none := by
  unfold valueOf
  cases hv : vdig c with
  | none => rfl
  | some d =>
    have hc : c = (⟨c.toNat, c.toNat_lt⟩ : Fin 256).val.toUInt8 := by simp
    have hd : d < 36 := (val_hit _ d (by rw [← hc]; exact hv)).1
    have hh := (hit_iff c d hd).2 hv
    by_cases hb : d < b
    · rw [h d hb hd] at hh; cases hh
    · simp [hb]
theorem a_value (c : UInt8) (b i : Nat) (hi : i < 36) (hb : i < b) (h : hit c i = true) : valueOf c b = some i := by
  unfold valueOf
  rw [(hit_iff c i hi).1 h]
  simp [hb]
end Go.Proofs.Ytnclfopdgilgaaa
