/- Layer 5 (package mem): cells are got. Conditions: the block is a memory (Mm). -/
import Derived.Test.YtahnbllmgalgpaaM5B
import Derived.Test.YtahnbllmgalgpaaM5N
namespace Go.Proofs.Ytahnbllmgalgpaa
open Go.RowKit
set_option linter.unusedVariables false

theorem get_err (v : Value) (a x : Int) (w : World) (hc : Calls Try.prog 43 #[v, .int .i64 a] w fun e w' => e = .returned (.tuple #[.slice none 0 0, .int .i64 x]) ∧ w = w') :
    Calls Try.prog 19 #[v, .int .i64 a] w fun e w' => e = .returned (.tuple #[.int .i64 0, .int .i64 x]) ∧ w = w' := by
  have hp := Lib.hid hc
  clear hc
  go_enter Try.func19, Try.ntmps19
  go_wp2_with ((with_reducible refine (hp.out).mono ?_); rintro e w' ⟨rfl, rfl⟩)
  go_loop [8, 19] (fun x i => x = .int .i64 0 ∧ i = .int .i64 0) (fun _ i => 0)
  case atStart => exact ⟨rfl, rfl⟩
  case round =>
    obtain ⟨rfl, rfl⟩ := hrel
    go_wp2
    go_ret2
    exact ⟨rfl, rfl⟩
theorem get_round {l : List UInt8} (hl : l.length = 8) (k : Nat) (hk : k < 8) : bits .or .i64 (cellOf (l.take k)) (wrap64 ((l[k].toNat : Int) * 2 ^ (8 * k))) = cellOf (l.take (k + 1)) := by
  have := or_step (l.take k) l[k] (by simp; omega)
  rw [show (l.take k).length = k by simp; omega] at this
  rw [this, List.take_succ_eq_append_getElem (by omega)]
theorem get_row {w : World} (v : Value) (q o : Nat) (a : Int) (l : List UInt8) (hl : l.length = 8) (hc : ∀ k (hk : k < l.length), w.cell? ⟨q, o + k, none⟩ = some (.int .u8 (l[k].toNat : Int)))
    (hp : Calls Try.prog 43 #[v, .int .i64 a] w fun e w' => e = .returned (.tuple #[.slice (some ⟨q, o, none⟩) 8 8, .int .i64 0]) ∧ w = w') :
    Calls Try.prog 19 #[v, .int .i64 a] w fun e w' => e = .returned (.tuple #[.int .i64 (cellOf l), .int .i64 0]) ∧ w = w' := by
  have HP := Lib.hid hp
  have HL := Lib.hid hl
  have HC := Lib.hid hc
  clear hl hc hp
  go_enter Try.func19, Try.ntmps19
  go_wp2_with ((with_reducible refine (HP.out).mono ?_); rintro e w' ⟨rfl, rfl⟩)
  go_loop [8, 19] (fun x i => ∃ (k : Nat) (X : Int), k ≤ 8 ∧ i = .int .i64 k ∧ x = .int .i64 X ∧ RowKit.Hid (X = cellOf (l.take k))) (fun _ i => 8 - (intOf i).toNat)
  case atStart => exact ⟨0, 0, by omega, rfl, rfl, Lib.hid (by rw [List.take_zero]; unfold cellOf leNat wrap64; omega)⟩
  case round =>
    obtain ⟨k, X, hk, rfl, rfl, hX⟩ := hrel
    by_cases hlt : k < 8
    · have hc := HC.out k (by rw [HL.out]; exact hlt)
      have hr := Lib.hid (get_round HL.out k hlt)
      obtain ⟨c, hce⟩ : ∃ c, c = l[k]'(by have := HL.out; omega) := ⟨_, rfl⟩
      rw [← hce] at hc hr
      clear hce
      go_wp2
      go_round
      case rel => exact ⟨k + 1, _, by omega, by go_num, rfl, Lib.hid (by rw [wrap_mul_l, hX.out, hr.out])⟩
      case measure => simp [intOf]; omega
    · have : k = 8 := by omega
      subst this
      clear hk hlt
      go_wp2
      go_ret2
      have e : X = cellOf l := by rw [hX.out, List.take_of_length_le (by rw [HL.out]; omega)]
      exact ⟨by rw [← e]; rfl, rfl⟩

theorem get_ok {w : World} {p q : Nat} {B : List UInt8} {h : Int} (m : Mm w p q B h) (o : Nat) (ho : o + 8 ≤ B.length) (h8 : o % 8 = 0) :
    Calls Try.prog 19 #[Pt p, .int .i64 (o : Int)] w fun e w' => e = .returned (.tuple #[.int .i64 (cellOf ((B.drop o).take 8)), .int .i64 0]) ∧ w = w' :=
  get_row (Pt p) q o o _ (by simp; omega) (fun k hk => by
    rw [m.bs (o + k) (by simp at hk; omega)]
    simp) (cellat_ok m o ho h8)
end Go.Proofs.Ytahnbllmgalgpaa
