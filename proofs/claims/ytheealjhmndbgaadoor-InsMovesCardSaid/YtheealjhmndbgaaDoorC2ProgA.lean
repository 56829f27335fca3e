/- Layer 2 (package pair): sums, halves, order. Condition: cells are integers of 64 bits. -/
import Derived.Test.YtheealjhmndbgaaDoorPair
import Derived.Test.YtheealjhmndbgaaDoorPairEq
import Derived.Laws.Externs
import Derived.Shelf.Spec.BitsCarry
namespace Go.Proofs.YtheealjhmndbgaaDoor
open Go.RowKit
set_option linter.unusedVariables false

theorem p_ret_pair {a b c d : Int} (h : a = c) (k : b = d) : Ending.returned (.agg #[.int .i64 a, .int .i64 b]) = .returned (.agg #[.int .i64 c, .int .i64 d]) := by rw [h, k]

/-- 0 less a number, less a borrow. -/
theorem run_sub_borrow (y b : Int) (hy : 0 ≤ y) (hy1 : y ≤ 18446744073709551615) (hb0 : 0 ≤ b) (hb : b ≤ 1) (w : World) :
    (callFunc 52 #[.int .u64 0, .int .u64 y, .int .u64 b]).run Tryd.prog w = .ok (.value (.tuple #[.int .u64 ((-y - b) % 18446744073709551616), .int .u64 (if 0 < y + b then 1 else 0)])) w := by
  obtain ⟨Y, rfl⟩ := Int.eq_ofNat_of_zero_le hy
  obtain ⟨B, rfl⟩ := Int.eq_ofNat_of_zero_le hb0
  have h := run_sub64 (P := Tryd.prog) 0 Y B (by omega) w
  rw [run_callFunc_extern Tryd.func52 (by kernel_rfl) (by kernel_rfl) (by kernel_rfl) (e := sub64Entry) (by kernel_rfl)]
  rw [show ((0 : Nat) : Int) = 0 from rfl] at h
  rw [h]
  simp only [Result.andThen]
  congr 6
  · omega
  · split <;> split <;> first | rfl | omega

theorem frombits_calls (w0 : World) (x y : Int) (w : World) (h : Ext w0 w) : Calls Tryd.prog 53 #[.int .u64 x, .int .u64 y] w fun e w' => e = .returned (.agg #[.int .i64 (wrap64 y), .int .i64 (wrap64 x)]) ∧ Ext w0 w' := by
  go_enter Tryd.func53, Tryd.ntmps53
  go_wp2
  exact bodyPost_ret (v := .agg #[.int .i64 (wrap64 y), .int .i64 (wrap64 x)]) (by simp [results, Tryd.results53, go_sem]) rfl ⟨rfl, h.cells _ _⟩

theorem sum_is (a b c d : Int) (ha : I64 a) (hb : I64 b) (hc : I64 c) (hd : I64 d) :
    wrap64 ((U a + U c + 0) % 18446744073709551616) = lo (V a b + V c d) ∧ wrap64 ((U b + U d + (U a + U c + 0) / 18446744073709551616) % 18446744073709551616) = hi (V a b + V c d) := by
  unfold lo hi V U wrap64; unfold I64 at *
  refine ⟨by omega, by omega⟩
theorem neg_is (a b : Int) (ha : I64 a) (hb : I64 b) :
    wrap64 ((-U a - 0) % 18446744073709551616) = lo (-V a b) ∧ wrap64 ((-U b - (if 0 < U a + 0 then 1 else 0)) % 18446744073709551616) = hi (-V a b) := by
  unfold lo hi V U wrap64; unfold I64 at *
  refine ⟨by omega, by split <;> omega⟩
set_option maxRecDepth 100000 in
theorem neg_calls (w0 : World) (a b : Int) (ha : I64 a) (hb : I64 b) (w : World) (h : Ext w0 w) :
    Calls Tryd.prog 46 #[.agg #[.int .i64 a, .int .i64 b]] w fun e w' => e = .returned (.agg #[.int .i64 (lo (-V a b)), .int .i64 (hi (-V a b))]) ∧ Ext w0 w' := by
  obtain ⟨e1, e2⟩ := neg_is a b ha hb
  rw [← e1, ← e2]
  clear e1 e2
  have ba := U_bd a
  have bb := U_bd b
  have hk : 0 ≤ (if 0 < U a + 0 then (1 : Int) else 0) ∧ (if 0 < U a + 0 then (1 : Int) else 0) ≤ 1 := by split <;> omega
  have r1 := run_sub_borrow (U a) 0 ba.1 ba.2 (by omega) (by omega)
  have r2 := run_sub_borrow (U b) (if 0 < U a + 0 then 1 else 0) bb.1 bb.2 hk.1 hk.2
  have ea : IntKind.u64.wrap a = U a := u64_wrap a
  have eb : IntKind.u64.wrap b = U b := u64_wrap b
  clear ba bb hk ha hb
  obtain ⟨k, ek⟩ : ∃ s : Int, s = (if 0 < U a + 0 then 1 else 0) := ⟨_, rfl⟩
  obtain ⟨s, es⟩ : ∃ s, s = (-U a - 0) % 18446744073709551616 := ⟨_, rfl⟩
  rw [← es, ← ek] at r1
  rw [← ek] at r2
  rw [← es, ← ek]
  clear es ek
  obtain ⟨t, et⟩ : ∃ s, s = (-U b - k) % 18446744073709551616 := ⟨_, rfl⟩
  obtain ⟨j, ej⟩ : ∃ s : Int, s = (if 0 < U b + k then 1 else 0) := ⟨_, rfl⟩
  rw [← et, ← ej] at r2
  rw [← et]
  clear et ej
  go_enter Tryd.func46, Tryd.ntmps46
  go_wp2_with fail
  refine (frombits_calls _ _ _ _ (Ext.refl _)).mono ?_
  rintro e w' ⟨rfl, hx⟩
  have hX := ((h.cells _ _).cells _ _).trans hx
  obtain ⟨c0, c1, f0, f1, hs⟩ := ext_last2 hx
  simp only [size_alloc] at c0 c1 f0 f1 hs
  have hs0 := h.1.size
  clear hx
  go_wp2
  exact bodyPost_ret (v := .agg #[.int .i64 (wrap64 s), .int .i64 (wrap64 t)]) (by simp [results, Tryd.results46, go_sem, c0, c1]) rfl ⟨rfl, (hX.setCell (by simp; omega) _).setCell (by simp; omega) _⟩
theorem shr63 (a : Int) (ha : I64 a) : a / 9223372036854775808 = if a < 0 then -1 else 0 := by unfold I64 at ha; split <;> omega
end Go.Proofs.YtheealjhmndbgaaDoor
