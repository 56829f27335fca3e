/- Bytes that came in as an argument: nil, or a row of cells. No condition. -/
import Derived.Test.YtacmidlhfcnkiaaBrow
import Derived.ProofKit
import Derived.OpenShut
namespace Go.Proofs.Ytacmidlhfcnkiaa
open Go.RowKit Go.ChangeShapes Go.WideShapes
set_option linter.unusedVariables false

/-- A slice of integers that came in: nil, or a row of numbers. -/
def RowIn (k : IntKind) (w : World) (a : Option Addr) (len cap : Nat) (zs : List Int) : Prop :=
  (a = none ∧ len = 0 ∧ cap = 0 ∧ zs = []) ∨
  ∃ x, a = some x ∧ len ≤ cap ∧ cap ≤ maxLen ∧ zs.length = cap ∧ (∀ i, i < zs.length → w.cell? (x.add i) = some (.int k (zs.getD i 0))) ∧ ∀ n ∈ zs, (Lit.int k n).wf = true
/-- The bytes l lie from A on. -/
def LiesIn (w : World) (A : Option Addr) (l : List UInt8) : Prop := ∀ i (hi : i < l.length), ∃ x, A = some x ∧ w.cell? (x.add i) = some (.int .u8 (l[i].toNat : Int))
theorem LiesIn.mod {w w' : World} {A : Option Addr} {l : List UInt8} (h : LiesIn w A l) (k : Mod [] w w') : LiesIn w' A l := fun i hi => by
  obtain ⟨x, e, hc⟩ := h i hi
  exact ⟨x, e, k.cell (by simp) hc⟩
theorem LiesIn.take {w : World} {A : Option Addr} {l : List UInt8} (h : LiesIn w A l) (n : Nat) : LiesIn w A (l.take n) := fun i hi => by
  obtain ⟨x, e, hc⟩ := h i (by simp at hi; omega)
  exact ⟨x, e, by rw [hc]; simp⟩
theorem RowIn.le {k : IntKind} {w : World} {a : Option Addr} {len cap : Nat} {zs : List Int} (h : RowIn k w a len cap zs) : len ≤ cap ∧ cap ≤ 9223372036854775807 := by
  rcases h with ⟨_, h1, h2, _⟩ | ⟨x, _, h1, h2, _⟩
  · omega
  · unfold maxLen at h2; omega
theorem u8_in {a : Int} (h : (Lit.int .u8 a).wf = true) : ((UInt8.ofNat a.toNat).toNat : Int) = a := by
  have h2 := bounds_u8 h
  rw [UInt8.toNat_ofNat', Nat.mod_eq_of_lt (by omega)]
  omega
theorem RowIn.bytes {w : World} {a : Option Addr} {len cap : Nat} {zs : List Int} (h : RowIn .u8 w a len cap zs) : ∃ l : List UInt8, l.length = len ∧ LiesIn w a l := by
  rcases h with ⟨_, h1, h2, _⟩ | ⟨x, hx, h1, h2, h3, h4, h5⟩
  · exact ⟨[], by rw [h1]; rfl, fun i hi => absurd hi (by simp)⟩
  · refine ⟨(zs.take len).map fun n => UInt8.ofNat n.toNat, by simp; omega, fun i hi => ⟨x, hx, ?_⟩⟩
    have hi' : i < len := by simp at hi; omega
    have hz : i < zs.length := by omega
    rw [h4 i hz]
    simp only [List.getElem_map, List.getElem_take]
    rw [u8_in (h5 _ (List.getElem_mem hz))]
    simp [List.getD, List.getElem?_eq_getElem hz]
theorem add_zero_in (x : Addr) : x.add 0 = x := by unfold Addr.add; simp
/-- 's[:k]'. -/
theorem upto_in (W : World) (t e : TypeId) (ht : Try.prog.underlying t = some (.slice e)) (hz : ∀ w, (Go.sizeOf e).run Try.prog w = .ok 1 w) (A : Option Addr) (len cap k : Nat) (hk : k ≤ cap) :
    (Instr.sliceAt t (.slice A len cap) none (some (.int .i64 (k : Int))) none).run Try.prog W = .ok (.slice A k cap) W := by
  have he : Try.prog.elem t = e := by simp [Program.elem, ht]
  have ht' : Try.prog.underlying t = some (.slice (Try.prog.elem t)) := by rw [he]; exact ht
  rw [run_sliceAt_slice W t _ _ _ _ ht', run_slice_h W t A len cap ht' .i64 k (by omega) (by omega), he, hz]
  show Result.ok (sliced A 0 (k : Int).toNat cap 1) W = _
  unfold sliced
  have e1 : (if cap = 0 then A else A.map fun x => x.add (0 * 1)) = A := by
    split
    · rfl
    · cases A with
      | none => rfl
      | some x => show some (x.add (0 * 1)) = _; rw [Nat.zero_mul, add_zero_in]
  rw [e1, Int.toNat_natCast, Nat.sub_zero, Nat.sub_zero]
theorem Try.sizeByteIn : ∀ w, (Go.sizeOf 5).run Try.prog w = .ok 1 w := fun w => by kernel_rfl
theorem conv_in {W : World} {A : Option Addr} {l : List UInt8} (h : LiesIn W A l) (k cap : Nat) (hk : k = l.length) :
    (convert 55 9 (.slice A k cap)).run Try.prog W = .ok (.string (str l)) W := by
  subst hk
  by_cases h0 : l.length = 0
  · obtain rfl : l = [] := List.eq_nil_of_length_eq_zero h0
    cases A with
    | none => exact run_convert_bytes_nil (P := Try.prog) W 55 5 Try.underlying55 Try.underlying5 0 cap 9 Try.underlying9
    | some x => exact run_convert_bytes_back (P := Try.prog) W 55 9 5 x cap [] Try.underlying55 Try.underlying5 Try.underlying9 (fun j hj => absurd hj (by simp))
  · obtain ⟨x, hx, _⟩ := h 0 (by omega)
    subst hx
    exact run_convert_bytes_back (P := Try.prog) W 55 9 5 x cap l Try.underlying55 Try.underlying5 Try.underlying9 (fun j hj => by
      obtain ⟨y, hy, hc⟩ := h j hj
      injection hy with hy
      subst hy
      exact hc)
end Go.Proofs.Ytacmidlhfcnkiaa
