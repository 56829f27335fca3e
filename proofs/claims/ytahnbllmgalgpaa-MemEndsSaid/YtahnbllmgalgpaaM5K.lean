/- Layer 5: plain words for the laws. Condition: the argument is a slice of bytes. -/
import Derived.Test.YtahnbllmgalgpaaM5L
import Derived.Deep.Cut
import Derived.Deep.DeepCutAuto
namespace Go.Proofs.Ytahnbllmgalgpaa
open Go.RowKit
set_option linter.unusedVariables false

theorem textB_size (l : List UInt8) : (textB l).size = l.length := by simp [textB, ByteArray.size]
theorem textB_list (l : List UInt8) : (textB l).data.toList = l := by simp [textB]
theorem textB_get (l : List UInt8) (i : Nat) (h : i < (textB l).size) : (textB l)[i] = l[i]'(by rw [textB_size] at h; exact h) := by
  show (textB l).data[i] = _
  simp [textB]
theorem take_splice {B l : List UInt8} {o : Nat} (h : o + l.length ≤ B.length) : ((splice B o l).drop o).take l.length = l := by
  unfold splice
  have ht : (B.take o).length = o := by simp; omega
  rw [List.append_assoc, List.drop_append_of_le_length (by omega), List.drop_of_length_le (by omega), List.nil_append, List.take_append_of_le_length (by omega), List.take_length]
theorem get_back {w : World} {p q : Nat} {B : List UInt8} {h : Int} (o : Nat) (x : Int) (hx : I64 x) (ho : o + 8 ≤ B.length) (h8 : o % 8 = 0) (m : Mm w p q (splice B o (le8 x)) h) :
    Calls Try.prog 19 #[Pt p, .int .i64 (o : Int)] w fun e w' => e = .returned (.tuple #[.int .i64 x, .int .i64 0]) ∧ w = w' := by
  have hl := splice_len (B := B) (o := o) (l := le8 x) (by rw [le8_len]; exact ho)
  have := get_ok m o (by rw [hl]; exact ho) h8
  have e := take_splice (B := B) (l := le8 x) (o := o) (by rw [le8_len]; exact ho)
  rw [le8_len] at e
  rw [e, cellOf_le8 hx] at this
  exact this
theorem zeros_get (n k : Nat) (h : k < (zeros n).length) : (zeros n)[k] = 0 := List.getElem_replicate _
theorem shr_byte (x : Int) (i : Nat) (hi : i < 8) : IntKind.u64.wrap x / 2 ^ (8 * i) % 256 = ((natOf x / 256 ^ i % 256 : Nat) : Int) := by
  rw [natOf_is]
  have e : (256 : Nat) ^ i = 2 ^ (8 * i) := by rw [Nat.pow_mul]
  rw [e]
  have e2 : (2 : Int) ^ (8 * i) = ((2 ^ (8 * i) : Nat) : Int) := by rw [Int.natCast_pow]; rfl
  rw [e2, Int.natCast_emod, Int.natCast_ediv]
  rfl
theorem ne_false {a b : Int} (h : a = b) : (a != b) = false := by rw [h]; simp
theorem keeps_val (s : List UInt8) (x : Int) (o k : Nat) (hx : I64 x) (hs : s.length ≤ 1024) (ho : o + 8 ≤ 1024) (hk : k < 1024) :
    (o ≤ k → k < o + 8 → ∀ T, T = textB (splice (splice (zeros 1024) 0 s) o (le8 x)) → ∀ h : k < T.size, (((T[k]'h).toNat : Int) != IntKind.u64.wrap x / 2 ^ (8 * (k - o)) % 256) = false) ∧
    (¬ (o ≤ k ∧ k < o + 8) → k < s.length → ∀ T, T = textB (splice (splice (zeros 1024) 0 s) o (le8 x)) → ∀ h : k < T.size, ∀ S, S = textB s → ∀ h2 : k < S.size, (((T[k]'h).toNat : Int) != ((S[k]'h2).toNat : Int)) = false) ∧
    (¬ (o ≤ k ∧ k < o + 8) → ¬ k < s.length → ∀ T, T = textB (splice (splice (zeros 1024) 0 s) o (le8 x)) → ∀ h : k < T.size, (((T[k]'h).toNat : Int) == 0) = true) := by
  have hz : (zeros 1024).length = 1024 := List.length_replicate
  have h1 : (splice (zeros 1024) 0 s).length = 1024 := by rw [splice_len (by omega), hz]
  have h8 := le8_len x
  have h2 : (splice (splice (zeros 1024) 0 s) o (le8 x)).length = 1024 := by rw [splice_len (by omega), h1]
  have g2 := splice_get (B := splice (zeros 1024) 0 s) (o := o) (l := le8 x) (by omega) k
  have g1 := splice_get (B := zeros 1024) (o := 0) (l := s) (by omega) k
  rw [List.getElem?_eq_getElem (by omega)] at g1 g2
  refine ⟨fun a b T hT h => ?_, fun a b T hT h S hS h3 => ?_, fun a b T hT h => ?_⟩
  · subst hT
    rw [textB_get]
    rw [if_pos (by omega), List.getElem?_eq_getElem (by omega), Option.some.injEq] at g2
    refine ne_false ?_
    rw [g2, le8_get, shr_byte x (k - o) (by omega)]
  · subst hT hS
    rw [textB_get, textB_get]
    rw [if_neg (by omega), List.getElem?_eq_getElem (by omega), Option.some.injEq] at g2
    rw [if_pos (by omega), List.getElem?_eq_getElem (by omega), Option.some.injEq] at g1
    refine ne_false ?_
    rw [g2, g1]
    rfl
  · subst hT
    rw [textB_get]
    rw [if_neg (by omega), List.getElem?_eq_getElem (by omega), Option.some.injEq] at g2
    rw [if_neg (by omega), List.getElem?_eq_getElem (by omega), Option.some.injEq] at g1
    rw [g2, g1, zeros_get]
    rfl
/-- 'string(b[:min(len(b), M)])' of a slice that came in. -/
structure Cut (w : World) (A : Option Addr) (len cap M : Nat) (Mi : Int) (s : List UInt8) : Prop where
  a1 : ∀ W, (Instr.sliceAt 38 (.slice A len cap) none (some (.int .i64 (len : Int))) none).run Try.prog W = .ok (.slice A len cap) W
  a2 : ∀ W, ¬ (len : Int) ≤ Mi → (Instr.sliceAt 38 (.slice A len cap) none (some (.int .i64 Mi)) none).run Try.prog W = .ok (.slice A M cap) W
  b1 : ∀ W, Ext w W → (len : Int) ≤ Mi → (convert 38 9 (.slice A len cap)).run Try.prog W = .ok (.string (textB s)) W
  b2 : ∀ W, Ext w W → ¬ (len : Int) ≤ Mi → (convert 38 9 (.slice A M cap)).run Try.prog W = .ok (.string (textB s)) W
  len : s.length ≤ M
theorem Row.cut {w : World} {A : Option Addr} {len cap : Nat} {zs : List Int} (R0 : Row .u8 w A len cap zs) (M : Nat) (Mi : Int) (hM : Mi = (M : Int)) : ∃ s, Cut w A len cap M Mi s := by
  subst hM
  obtain ⟨l, hl, hlies⟩ := R0.bytes
  have hle := R0.le
  refine ⟨l.take M, fun W => slice_upto W 38 5 Try.underlying38 Try.sizeByte A len cap len (by omega), fun W h => slice_upto W 38 5 Try.underlying38 Try.sizeByte A len cap M (by omega), fun W hx h => ?_, fun W hx h => ?_, by simp; omega⟩
  · have := conv_lies (hlies.ext hx) len cap (by omega)
    rw [List.take_of_length_le (by omega)] at this
    rwa [List.take_of_length_le (by omega)]
  · exact conv_lies (hlies.ext hx) M cap (by omega)
end Go.Proofs.Ytahnbllmgalgpaa
