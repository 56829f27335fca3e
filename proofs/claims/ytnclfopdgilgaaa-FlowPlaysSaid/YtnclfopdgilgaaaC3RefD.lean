/- The document's answers for layer 3: what is taken in of a text. Condition: cells are integers of 64 bits, the base is from 2 to 36. -/
import Derived.Test.YtnclfopdgilgaaaC3RefC
namespace Go.Proofs.Ytnclfopdgilgaaa
open Go.RowKit
set_option linter.unusedVariables false

theorem lin_V (x y z k : Int) : V x (y + z + 18446744073709551616 * k) = V x y + 18446744073709551616 * z + 340282366920938463463374607431768211456 * k := by
  unfold V; omega
theorem lin_all (vt vy X z hb k1 k2 k3 nB kB d r q : Int) (h1 : vt = vy + 18446744073709551616 * z + 340282366920938463463374607431768211456 * k3) (h2 : vy = X + 340282366920938463463374607431768211456 * k1) (h3 : z = hb + 18446744073709551616 * k2) (h4 : X + 18446744073709551616 * hb = nB + 340282366920938463463374607431768211456 * kB) (h5 : r = nB + d - 340282366920938463463374607431768211456 * q) :
    vt + d = r + 340282366920938463463374607431768211456 * (k1 + k2 + k3 + kB + q) := by omega
theorem U_part (l h : Int) : U l + 18446744073709551616 * h = V l h := by unfold V; omega
theorem mod_two128 (n : Nat) : ((n % two128 : Nat) : Int) = (n : Int) - 340282366920938463463374607431768211456 * ((n / two128 : Nat) : Int) := by
  unfold two128; omega
theorem V_digit (d : Nat) (h : d < 36) : V (d : Int) 0 = (d : Int) := by unfold V U; omega
/-- One digit taken in, in cells: the pair's low cell times the base, its high cell times it, and the digit. -/
theorem accept_math (N B d : Nat) (b : Int) (hb : b = B) (h36 : B ≤ 36) (hd : d < 36) :
    ∃ x y z t : Int, lo (U (lo (N : Int)) * U b) = x ∧ hi (U (lo (N : Int)) * U b) = y ∧ wrap64 (hi (N : Int) * b) = z ∧ wrap64 (y + z) = t ∧ I64 x ∧ I64 t
      ∧ lo (V x t + V (d : Int) 0) = lo (((N * B + d) % two128 : Nat) : Int) ∧ hi (V x t + V (d : Int) 0) = hi (((N * B + d) % two128 : Nat) : Int) := by
  have hU := U_few b B hb h36
  refine ⟨_, _, _, _, rfl, rfl, rfl, rfl, lo_i64 _, i64_wrap _, ?_⟩
  rw [V_digit d hd, hU, hb]
  obtain ⟨k1, hk1⟩ := V_mk (U (lo (N : Int)) * (B : Int))
  obtain ⟨k2, hk2⟩ := wrap_is (hi (N : Int) * (B : Int))
  obtain ⟨k3, hk3⟩ := wrap_is (hi (U (lo (N : Int)) * (B : Int)) + wrap64 (hi (N : Int) * (B : Int)))
  obtain ⟨k4, hk4⟩ := V_mk (N : Int)
  have hp := U_part (lo (N : Int)) (hi (N : Int))
  rw [hk4] at hp
  have h4 : U (lo (N : Int)) * (B : Int) + 18446744073709551616 * (hi (N : Int) * (B : Int)) = ((N * B : Nat) : Int) + 340282366920938463463374607431768211456 * (k4 * (B : Int)) := by
    rw [← Int.mul_assoc, ← Int.mul_assoc, ← Int.add_mul, Int.natCast_mul, ← Int.add_mul, hp]
  have h5 := mod_two128 (N * B + d)
  rw [Int.natCast_add] at h5
  have h1 := lin_V (lo (U (lo (N : Int)) * (B : Int))) (hi (U (lo (N : Int)) * (B : Int))) (wrap64 (hi (N : Int) * (B : Int))) k3
  rw [← hk3] at h1
  exact same _ (lin_all _ _ _ _ _ _ _ _ _ _ _ _ _ h1 hk1 hk2 h4 h5)
theorem value_lt (c : UInt8) (B : Nat) (hB : B ≤ 36) : vN c B < 36 := by
  unfold vN
  cases h : valueOf c B with
  | none => simp
  | some d =>
    unfold valueOf at h
    cases hv : vdig c with
    | none => rw [hv] at h; cases h
    | some e =>
      rw [hv] at h
      by_cases he : e < B
      · simp only [he, if_true, Option.some.injEq] at h
        subst h
        simp; omega
      · simp only [he, if_false] at h; cases h
theorem value_none {c : UInt8} {B : Nat} (h : vB c B = false) : valueOf c B = none := by
  unfold vB at h
  cases hv : valueOf c B with
  | none => rfl
  | some d => rw [hv] at h; cases h
theorem value_some {c : UInt8} {B : Nat} (h : vB c B = true) : valueOf c B = some (vN c B) := by
  unfold vB at h
  unfold vN
  cases hv : valueOf c B with
  | none => rw [hv] at h; cases h
  | some d => rfl
theorem drop_at (s : ByteArray) (k : Nat) (h : k < s.size) : s.data.toList.drop k = s[k] :: s.data.toList.drop (k + 1) := by
  rw [List.drop_eq_getElem_cons (by simpa using h)]
  rfl
end Go.Proofs.Ytnclfopdgilgaaa
