/- Layer 5: an act done to both memories: a text is written. Conditions: two memories of the same bytes; numbers are of their kinds. -/
import Derived.Test.YtahnbllmgalgpaaM5W
import Derived.Deep.RegionHeld3
namespace Go.Proofs.Ytahnbllmgalgpaa
open Go.RowKit Go.ChangeShapes
set_option linter.unusedVariables false

theorem and_63 (y : Int) : ∃ n : Nat, bits .and .i64 y 63 = (n : Int) ∧ n ≤ 63 := by
  rw [and_bv]
  have e : (BitVec.ofInt 64 y &&& BitVec.ofInt 64 63).toNat ≤ 63 := by
    rw [BitVec.toNat_and]
    exact Nat.and_le_right
  refine ⟨(BitVec.ofInt 64 y &&& BitVec.ofInt 64 63).toNat, ?_, e⟩
  rw [BitVec.toInt_eq_toNat_of_lt (by omega)]
theorem conv_zeros (w : World) (n : Nat) : (convert 38 9 (.slice (some ⟨w.heap.size, 0, none⟩) n n)).run Try.prog (w.alloc (.cells (Array.replicate n (.int .u8 0)) 5)) = .ok (.string (textB (zeros n))) (w.alloc (.cells (Array.replicate n (.int .u8 0)) 5)) := by
  have hl : (zeros n).length = n := List.length_replicate
  have hr := run_convert_bytes_back (P := Try.prog) (w.alloc (.cells (Array.replicate n (.int .u8 0)) 5)) 38 9 5 ⟨w.heap.size, 0, none⟩ n (zeros n) Try.underlying38 Try.underlying5 Try.underlying9 (fun j hj => by
    have hj' : j < n := by omega
    rw [Go.WideShapes.add_plain, Nat.zero_add, World.cell?_alloc_new]
    simp [zeros, hj'])
  rw [hl] at hr
  exact hr
set_option maxHeartbeats 2000000 in
set_option maxRecDepth 100000 in
theorem does_write {w : World} {p q p2 q2 : Nat} {B : List UInt8} {h : Int} (t : Two w p q p2 q2 B h) (k x y z : Int) (hk : 0 ≤ k ∧ k ≤ 255) (hk2 : k % 13 = 5) (hx : I64 x) (hy : I64 y) (hz : I64 z) :
    Calls Try.prog 14 #[Pt p, Pt p2, .agg #[.int .u8 k, .int .i64 x, .int .i64 y, .int .i64 z]] w (Did w p q p2 q2) := by
  obtain ⟨n, hn, hn2⟩ := and_63 y
  obtain ⟨Z, hZ⟩ : ∃ Z, Z = textB (zeros n) := ⟨_, rfl⟩
  obtain ⟨S, hS⟩ : ∃ S, S = Z ++ ⟨#[120]⟩ := ⟨_, rfl⟩
  have hzs : Z.size = n := by rw [hZ]; simp [textB, ByteArray.size, zeros]
  have hss : S.size ≤ 64 := by rw [hS, ByteArray.size_append, hzs]; show n + 1 ≤ 64; omega
  have hadd : ∀ W, (Op.stringOp .add Z ⟨#[120]⟩).run Try.prog W = .ok (.string S) W := fun W => by
    rw [hS]
    exact run_string_add_sum W _ _ (by rw [hzs]; show n + 1 ≤ _; omega)
  have hmk := make_zeros (w.alloc (.cells #[.int .u8 k, .int .i64 x, .int .i64 y, .int .i64 z] 35)) n (by omega)
  have hcv := conv_zeros (w.alloc (.cells #[.int .u8 k, .int .i64 x, .int .i64 y, .int .i64 z] 35)) n
  rw [← hZ, size_alloc] at hcv
  rw [size_alloc] at hmk
  obtain ⟨u, B2, k1, k2⟩ := both_write B h x S hx (by unfold maxLen; omega)
  have K1 := Lib.hid (fun W hm => k1 W p q hm)
  have K2 := Lib.hid (fun W hm => k2 W p2 q2 hm)
  clear k1 k2 hZ hS hzs hss
  have T0 := Lib.hid t
  have hX0 := (Ext.refl w).cells #[.int .u8 k, .int .i64 x, .int .i64 y, .int .i64 z] 35
  have hXa := (Ext.refl (w.alloc (.cells #[.int .u8 k, .int .i64 x, .int .i64 y, .int .i64 z] 35))).cells (Array.replicate n (.int .u8 0)) 5
  have hX1 := hX0.trans hXa
  have act0 := (Act4.last w k x y z 35).same (hXa.1.block _ (by rw [size_alloc]; omega)) hXa.1.size
  have m1 := t.m1.ext hX1
  have m2 := t.m2.ext hX1
  have HN := Lib.hid (And.intro (And.intro (Nat.ne_of_gt t.m1.lp) (Nat.ne_of_gt t.m1.lq)) (And.intro (Nat.ne_of_gt t.m2.lp) (Nat.ne_of_gt t.m2.lq)))
  have HM := Lib.hid (And.intro m1 m2)
  have HX1 := Lib.hid hX1
  clear t m1 m2 hX1 hX0 hXa
  go_enter Try.func14, Try.ntmps14
  go_wp2_with fail
  go_region_held3 (fun W => W.cell? ⟨w.heap.size, 1, none⟩ = some (.int .i64 x)) (first | exact act0.c1 | exact act0.drew.c1 | exact act1.c1 | exact act2.c1)
    (first | ((with_reducible refine (K1.out _ HM.out.1.drew).mono ?_); rintro e w1 ⟨rfl, hm1, hk1⟩; have hm2 := HM.out.2.drew.other hk1 T0.out.a.symm T0.out.c.symm T0.out.b.symm T0.out.d.symm; have act1 := act0.drew.kept hk1 HN.out.1.1 HN.out.1.2) | ((with_reducible refine (K2.out _ hm2).mono ?_); rintro e w2 ⟨rfl, hm3, hk2'⟩; have hm4 := hm1.other hk2' T0.out.a T0.out.b T0.out.c T0.out.d; have act2 := act1.kept hk2' HN.out.2.1 HN.out.2.2))
  go_wp2_with fail
  go_ret
  exact ⟨by simp, ⟨_, _, ⟨hm4, hm3, T0.out.a, T0.out.b, T0.out.c, T0.out.d⟩⟩, fun w0 h0 a1 a2 a3 a4 => ((h0.trans HX1.out.drew).kept hk1 a1 a2).kept hk2' a3 a4⟩
end Go.Proofs.Ytahnbllmgalgpaa
