/- Eight bytes as a number, the lowest first. Plain numbers. No condition. -/
import Derived.Test.YtahnbllmgalgpaaNum
import Derived.Test.YtahnbllmgalgpaaBit
namespace Go.Proofs.Ytahnbllmgalgpaa
open Go.RowKit
set_option linter.unusedVariables false

def leNat : List UInt8 → Nat
  | [] => 0
  | c :: r => c.toNat + 256 * leNat r
theorem leNat_lt : ∀ l : List UInt8, leNat l < 256 ^ l.length
  | [] => by decide
  | c :: r => by
    have := leNat_lt r
    have hc := c.toNat_lt
    have e : 256 ^ (c :: r).length = 256 * 256 ^ r.length := by rw [List.length_cons, Nat.pow_succ]; omega
    show c.toNat + 256 * leNat r < _
    rw [e]
    omega
theorem leNat_snoc : ∀ (l : List UInt8) (c : UInt8), leNat (l ++ [c]) = leNat l + c.toNat * 256 ^ l.length
  | [], c => by simp [leNat]
  | d :: r, c => by
    have := leNat_snoc r c
    have e : 256 ^ (d :: r).length = 256 ^ r.length * 256 := by rw [List.length_cons, Nat.pow_succ]
    show d.toNat + 256 * leNat (r ++ [c]) = d.toNat + 256 * leNat r + c.toNat * 256 ^ (d :: r).length
    rw [this, e, Nat.mul_add, Nat.add_assoc, ← Nat.mul_assoc c.toNat, Nat.mul_comm 256 (c.toNat * _)]
theorem leNat_get : ∀ (l : List UInt8) (i : Nat) (h : i < l.length), leNat l / 256 ^ i % 256 = l[i].toNat
  | c :: r, 0, h => by
    have := c.toNat_lt
    show (c.toNat + 256 * leNat r) / 256 ^ 0 % 256 = c.toNat
    rw [Nat.pow_zero, Nat.div_one]
    omega
  | c :: r, i + 1, h => by
    have := leNat_get r i (by simpa using h)
    have hc := c.toNat_lt
    show (c.toNat + 256 * leNat r) / 256 ^ (i + 1) % 256 = (r[i]'(by simpa using h)).toNat
    rw [show 256 ^ (i + 1) = 256 * 256 ^ i by rw [Nat.pow_succ]; omega, ← Nat.div_div_eq_div_mul, show (c.toNat + 256 * leNat r) / 256 = leNat r by omega]
    exact this
/-- The cell that eight bytes are. -/
def cellOf (l : List UInt8) : Int := wrap64 (leNat l : Nat)
def le8 (x : Int) : List UInt8 := (List.range 8).map fun i => UInt8.ofNat (natOf x / 256 ^ i % 256)
theorem le8_len (x : Int) : (le8 x).length = 8 := by simp [le8]
theorem le8_get (x : Int) (i : Nat) (h : i < (le8 x).length) : ((le8 x)[i].toNat : Nat) = natOf x / 256 ^ i % 256 := by
  simp only [le8, List.getElem_map, List.getElem_range]
  rw [UInt8.toNat_ofNat', Nat.mod_mod]
theorem leNat_le8 (x : Int) : leNat (le8 x) = natOf x := by
  have h := natOf_lt x
  obtain ⟨X, hX⟩ : ∃ X, X = natOf x := ⟨_, rfl⟩
  have e : le8 x = [UInt8.ofNat (X % 256), UInt8.ofNat (X / 256 % 256), UInt8.ofNat (X / 65536 % 256), UInt8.ofNat (X / 16777216 % 256), UInt8.ofNat (X / 4294967296 % 256), UInt8.ofNat (X / 1099511627776 % 256), UInt8.ofNat (X / 281474976710656 % 256), UInt8.ofNat (X / 72057594037927936 % 256)] := by
    rw [hX]
    simp [le8, List.range_succ_eq_map]
  rw [e, ← hX]
  rw [← hX] at h
  simp only [leNat, UInt8.toNat_ofNat', Nat.mod_mod]
  omega
theorem wrap_natOf {x : Int} (h : I64 x) : wrap64 (natOf x : Nat) = x := by
  rw [← natOf_is, u64_wrap]
  unfold I64 at h
  unfold wrap64
  omega
theorem natOf_wrap (n : Nat) (h : n < 18446744073709551616) : natOf (wrap64 n) = n := by
  have e := natOf_is (wrap64 n)
  rw [u64_of_wrap _ (by omega) (by omega)] at e
  omega
theorem cellOf_le8 {x : Int} (h : I64 x) : cellOf (le8 x) = x := by unfold cellOf; rw [leNat_le8, wrap_natOf h]
theorem cellOf_i64 (l : List UInt8) : I64 (cellOf l) := i64_wrap _
/-- One byte of a cell: as it is shifted to the right. -/
theorem byte_of (x : Int) (h : I64 x) (i : Nat) (hi : i < 8) : x / 2 ^ (8 * i) % 256 = ((natOf x / 256 ^ i % 256 : Nat) : Int) := by
  have e := natOf_is x
  rw [u64_wrap] at e
  obtain ⟨X, hX⟩ : ∃ X, X = natOf x := ⟨_, rfl⟩
  rw [← hX] at e ⊢
  match i, hi with
  | 0, _ => simp; omega
  | 1, _ => simp; omega
  | 2, _ => simp; omega
  | 3, _ => simp; omega
  | 4, _ => simp; omega
  | 5, _ => simp; omega
  | 6, _ => simp; omega
  | 7, _ => simp; omega
/-- Bytes that are joined by 'or', each farther left. -/
theorem or_step (l : List UInt8) (c : UInt8) (h : l.length < 8) : bits .or .i64 (cellOf l) (wrap64 ((c.toNat : Int) * 2 ^ (8 * l.length))) = cellOf (l ++ [c]) := by
  have h1 := leNat_lt l
  have e256 : 256 ^ l.length = 2 ^ (8 * l.length) := by rw [Nat.pow_mul]
  unfold cellOf
  rw [leNat_snoc, or_bv, ofInt_wrap, ofInt_wrap]
  have c1 : ((c.toNat : Int) * 2 ^ (8 * l.length)) = ((c.toNat * 2 ^ (8 * l.length) : Nat) : Int) := by rw [Int.natCast_mul, Int.natCast_pow]; rfl
  rw [c1, BitVec.ofInt_natCast, BitVec.ofInt_natCast, e256]
  rw [e256] at h1
  have e2 : BitVec.ofNat 64 (leNat l) ||| BitVec.ofNat 64 (c.toNat * 2 ^ (8 * l.length)) = BitVec.ofNat 64 (leNat l + c.toNat * 2 ^ (8 * l.length)) := by
    rw [← BitVec.ofNat_or]
    congr 1
    rw [Nat.or_comm, Nat.mul_comm, ← Nat.two_pow_add_eq_or_of_lt h1, Nat.add_comm]
  rw [e2, ← wrap_toInt, BitVec.toNat_ofNat]
  have hm : ((leNat l + c.toNat * 2 ^ (8 * l.length) : Nat) : Int) = ((leNat l + c.toNat * 2 ^ (8 * l.length)) % 2 ^ 64 : Nat) + 18446744073709551616 * (((leNat l + c.toNat * 2 ^ (8 * l.length)) / 2 ^ 64 : Nat) : Int) := by omega
  rw [hm, wrap_off]
end Go.Proofs.Ytahnbllmgalgpaa
