/- Layer 13: what the operations on the memory do where the place is right. Condition: numbers are of their kinds. -/
import Derived.Test.YtegcecpmdgljpaaGreatDoorVG
namespace Go.Proofs.YtegcecpmdgljpaaGreatDoor
open Go.RowKit
set_option linter.unusedVariables false

theorem bt_low (c : UInt8) : bt ((c.toNat : Int) + 256) = c := by
  have := c.toNat_lt
  unfold bt
  apply UInt8.toNat_inj.1
  rw [UInt8.toNat_ofNat']
  omega
theorem bt_self (c : UInt8) : bt (c.toNat : Int) = c := by
  have := c.toNat_lt
  unfold bt
  apply UInt8.toNat_inj.1
  rw [UInt8.toNat_ofNat']
  omega
theorem cell_back (B : List UInt8) (o : Nat) (x : Int) (hx : I64 x) (ho : o + 8 ≤ B.length) : cell8 (((splice B o (le8 x)).drop o).take 8) = x := by
  have h := splice_back B o (le8 x) (by rw [le8_len]; exact ho)
  rw [le8_len] at h
  rw [h]
  exact cellOf_le8 hx
/-- What is put behind it leaves a cell as it is. -/
theorem cell_beh (B : List UInt8) (o : Nat) (x : Int) (ho : o + 16 ≤ B.length) : ((splice B o (le8 x)).drop (o + 8)).take 8 = (B.drop (o + 8)).take 8 := by
  unfold splice
  rw [List.drop_append_of_le_length (by simp [le8_len]; omega), List.drop_of_length_le (by simp [le8_len]; omega), List.nil_append, le8_len]
def muP (μ : Mu) (o : Nat) (l : List UInt8) : Mu := { μ with B := splice μ.B o l }
theorem muP_len (μ : Mu) (o : Nat) (l : List UInt8) (h : o + l.length ≤ μ.B.length) : (muP μ o l).B.length = μ.B.length := splice_len h
section
variable (μ : Mu) (o : Nat) (x y : Int)
theorem get_uni (ho : o + 8 ≤ μ.B.length) (h8 : o % 8 = 0) : Uni 73 1 [(o : Int)] μ [cell8 ((μ.B.drop o).take 8)] 0 μ :=
  act_73_of _ _ _ μ (MT.same fun W p q m => get_ok m o ho h8) fun W p q m => get_ok m o ho h8
theorem put_uni (hx : I64 x) (ho : o + 8 ≤ μ.B.length) (h8 : o % 8 = 0) : Uni 74 2 [x, (o : Int)] μ [] 0 (muP μ o (le8 x)) :=
  act_74_of x _ 0 _ _ μ (MT.kept fun W p q m => mput_ok m o x hx ho h8)
theorem getc_uni (ho : o < μ.B.length) : Uni 75 1 [(o : Int)] μ [(μ.B[o].toNat : Int)] 0 μ := act_75_of _ _ _ μ fun W p q m => getbyte_ok m o ho
theorem putc_uni (c : UInt8) (ho : o < μ.B.length) : Uni 76 2 [(c.toNat : Int) + 256, (o : Int)] μ [] 0 (muP μ o [c]) :=
  act_76_of _ _ 0 _ _ μ (MT.kept fun W p q m => by rw [bt_low]; exact putbyte_ok m o c ho)
theorem addto_uni (v : Int) (hv : cell8 ((μ.B.drop o).take 8) = v) (ho : o + 8 ≤ μ.B.length) (h8 : o % 8 = 0) : Uni 77 2 [x, (o : Int)] μ [] 0 (muP μ o (le8 (wrap64 (v + x)))) :=
  act_77_of x _ 0 μ _ fun W a T R h => addto_ok (B1 := splice μ.B o (le8 (wrap64 (v + x)))) (h1 := μ.h) (MT.same fun W p q m => by have := get_ok m o ho h8; rw [hv] at this; exact this) (MT.kept fun W p q m => mput_ok m o _ (i64_wrap _) ho h8) h
theorem get2_uni (ho : o + 16 ≤ μ.B.length) (h8 : o % 8 = 0) : Uni 78 1 [(o : Int)] μ [cell8 ((μ.B.drop (o + 8)).take 8), cell8 ((μ.B.drop o).take 8)] 0 μ :=
  act_78_of _ _ 0 μ μ fun W a T R h => gettwo_ok (MT.same fun W p q m => by
    rw [show wrap64 ((o : Int) + 8) = ((o + 8 : Nat) : Int) by have := m.hi; unfold wrap64; omega]
    exact get_ok m (o + 8) (by omega) (by omega)) (MT.same fun W p q m => get_ok m o (by omega) h8) h
theorem put2_uni (hx : I64 x) (hy : I64 y) (ho : o + 16 ≤ μ.B.length) (h8 : o % 8 = 0) : Uni 79 3 [x, y, (o : Int)] μ [] 0 (muP (muP μ (o + 8) (le8 x)) o (le8 y)) :=
  act_79_of x y _ 0 μ _ fun W a T R h => puttwo_ok (μ := μ) (B1 := (muP μ (o + 8) (le8 x)).B) (h1 := μ.h) (B2 := (muP (muP μ (o + 8) (le8 x)) o (le8 y)).B) (h2 := μ.h) (MT.same fun W p q m => get_ok m o (by omega) h8) (MT.kept fun W p q m => by
    rw [show wrap64 ((o : Int) + 8) = ((o + 8 : Nat) : Int) by have := m.hi; unfold wrap64; omega]
    exact mput_ok m (o + 8) x hx (by omega) (by omega)) (MT.kept fun W p q m => mput_ok m o y hy (by rw [muP_len _ _ _ (by rw [le8_len]; omega)]; omega) h8) h
theorem count_uni (ho : o < μ.B.length) (hl : μ.B.length ≤ 65536) : Uni 89 1 [(o : Int)] μ [((o + 1 : Nat) : Int), (μ.B[o].toNat : Int)] 0 μ :=
  act_89_of _ _ 0 μ μ fun W a T R h => by
    have := count_of (x := (o : Int)) (MT.same fun W p q m => getbyte_ok m o ho) h
    rw [show wrap64 ((o : Int) + 1) = ((o + 1 : Nat) : Int) by unfold wrap64; omega] at this
    exact this
theorem comma_uni (hx : I64 x) (hh : μ.h = 8) (hl : μ.B.length = 1024) : Uni 84 1 [x] μ [] 0 { muP μ 8 (le8 x) with h := 16 } :=
  act_84_of x 0 _ _ μ (MT.kept fun W p q m => by
    have := comma_ok m x hx (by rw [hh]; decide) (by rw [hh, hl]; decide)
    rw [hh] at this
    exact this)
theorem fill_uni (c : UInt8) (ho : o + 8 ≤ μ.B.length) : Uni 80 3 [(o : Int), 8, (c.toNat : Int)] μ [] 0 (muP μ o (List.replicate 8 c)) :=
  act_80_of _ _ _ 0 _ _ μ (MT.kept fun W p q m => by rw [bt_self]; exact fill_ok m o 8 c ho)
end
theorem cell_eight (c : UInt8) : cell8 (List.replicate 8 c) = wrap64 ((c.toNat : Int) * 72340172838076673) := by
  unfold cell8
  congr 1
  simp [leNat, List.replicate]
  omega
/-- A place that is a whole number of cells. -/
def al8 (x : Int) : Int := bits .andNot .i64 (wrap64 (wrap64 (x + 8) - 1)) 7
theorem and7 (b : BitVec 64) : (b &&& ~~~ 7#64).toNat = b.toNat / 8 * 8 := by
  have h : b &&& ~~~ 7#64 = (b >>> 3) <<< 3 := by
    ext i hi
    simp only [BitVec.getElem_and, BitVec.getElem_not, BitVec.getElem_shiftLeft]
    by_cases h3 : i < 3
    · rcases (show i = 0 ∨ i = 1 ∨ i = 2 by omega) with rfl | rfl | rfl <;> simp
    · have h7 : (7#64)[i] = false := by
        show (7#64).getLsbD i = false
        rw [BitVec.getLsbD_ofNat]
        have : Nat.testBit 7 i = false := Nat.testBit_lt_two_pow (Nat.lt_of_lt_of_le (show 7 < 2 ^ 3 by decide) (Nat.pow_le_pow_right (by decide) (by omega)))
        simp [this]
      rw [h7]
      simp [h3]
      rw [show 3 + (i - 3) = i by omega]
      exact (BitVec.getLsbD_eq_getElem hi).symm
  rw [h, BitVec.toNat_shiftLeft, BitVec.toNat_ushiftRight, Nat.shiftRight_eq_div_pow, Nat.shiftLeft_eq]
  have := b.isLt
  omega
theorem andnot7 (u : Int) : bits .andNot .i64 u 7 = wrap64 ((u % 18446744073709551616) / 8 * 8) := by
  have e : bits .andNot .i64 u 7 = (BitVec.ofInt 64 u &&& ~~~ 7#64).toInt := by
    have : bits .andNot .i64 u 7 = (BitVec.ofInt 64 u &&& ~~~ BitVec.ofInt 64 7).toInt := by rw [← wrap_toInt]; exact IntWalk.i64_left _
    exact this
  rw [e, BitVec.toInt_eq_toNat_bmod, and7, BitVec.toNat_ofInt]
  unfold wrap64
  simp only [Int.bmod_def]
  have h := Int.toNat_of_nonneg (show 0 ≤ u % 18446744073709551616 by omega)
  have e2 : (2 : Int) ^ 64 = 18446744073709551616 := by decide
  simp only [Nat.reducePow] at *
  omega
theorem al8_facts (x : Int) (hx : I64 x) : I64 (al8 x) ∧ al8 (al8 x) = al8 x ∧ (al8 x).tmod 8 = 0 ∧ 0 ≤ wrap64 (al8 x - x) ∧ wrap64 (al8 x - x) < 8 := by
  have h : ∀ y, al8 y = wrap64 ((wrap64 (wrap64 (y + 8) - 1) % 18446744073709551616) / 8 * 8) := fun y => andnot7 _
  have hm : ∀ z : Int, z % 8 = 0 → z.tmod 8 = 0 := fun z hz => by
    obtain ⟨q, rfl⟩ : ∃ q, z = 8 * q := ⟨z / 8, by omega⟩
    exact Int.mul_tmod_right 8 q
  unfold I64 at *
  have e := h x
  have e2 := h (al8 x)
  generalize al8 x = v at *
  generalize al8 v = u at *
  unfold wrap64 at *
  refine ⟨by omega, by omega, hm _ (by omega), by omega, by omega⟩
end Go.Proofs.YtegcecpmdgljpaaGreatDoor
