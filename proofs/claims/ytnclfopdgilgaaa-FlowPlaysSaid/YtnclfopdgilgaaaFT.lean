/- Layer 11: small numbers that came in. No condition. -/
import Derived.Test.YtnclfopdgilgaaaFS
import Derived.Test.YtnclfopdgilgaaaFW
import Derived.ProofKit
import Derived.OpenShut
namespace Go.Proofs.Ytnclfopdgilgaaa
open Go.RowKit Go.ChangeShapes Go.WideShapes
set_option linter.unusedVariables false

/-- A slice of integers that came in: nil, or a row of numbers. -/
def RowIn (k : IntKind) (w : World) (a : Option Addr) (len cap : Nat) (zs : List Int) : Prop :=
  (a = none ∧ len = 0 ∧ cap = 0 ∧ zs = []) ∨
  ∃ x, a = some x ∧ len ≤ cap ∧ cap ≤ maxLen ∧ zs.length = cap ∧ (∀ i, i < zs.length → w.cell? (x.add i) = some (.int k (zs.getD i 0))) ∧ ∀ n ∈ zs, (Lit.int k n).wf = true
/-- The numbers l lie from A on. -/
def NumsIn (k : IntKind) (w : World) (A : Option Addr) (l : List Int) : Prop := (∀ i (hi : i < l.length), ∃ x, A = some x ∧ w.cell? (x.add i) = some (.int k l[i])) ∧ ∀ n ∈ l, (Lit.int k n).wf = true
theorem NumsIn.far {k : IntKind} {w w' : World} {A : Option Addr} {l : List Int} (h : NumsIn k w A l) (m : Mod [] w w') : NumsIn k w' A l := ⟨fun i hi => by
  obtain ⟨x, e, hc⟩ := h.1 i hi
  exact ⟨x, e, m.cell (by simp) hc⟩, h.2⟩
theorem RowIn.le {k : IntKind} {w : World} {a : Option Addr} {len cap : Nat} {zs : List Int} (h : RowIn k w a len cap zs) : len ≤ cap ∧ cap ≤ 9223372036854775807 := by
  rcases h with ⟨_, h1, h2, _⟩ | ⟨x, _, h1, h2, _⟩
  · omega
  · unfold maxLen at h2; omega
/-- Its first q. -/
theorem RowIn.nums {k : IntKind} {w : World} {a : Option Addr} {len cap : Nat} {zs : List Int} (h : RowIn k w a len cap zs) (q : Nat) (hq : q ≤ len) : ∃ l : List Int, l.length = q ∧ NumsIn k w a l := by
  rcases h with ⟨_, h1, h2, _⟩ | ⟨x, hx, h1, h2, h3, h4, h5⟩
  · exact ⟨[], by simp; omega, fun i hi => absurd hi (by simp), by simp⟩
  · refine ⟨zs.take q, by simp; omega, fun i hi => ⟨x, hx, ?_⟩, fun n hn => h5 n (List.mem_of_mem_take hn)⟩
    have hi' : i < q := by simp at hi; omega
    have hz : i < zs.length := by omega
    rw [h4 i hz, List.getElem_take]
    simp [List.getD, List.getElem?_eq_getElem hz]
theorem add_zero_in (x : Addr) : x.add 0 = x := by unfold Addr.add; simp
/-- 's[:k]'. -/
theorem upto_in (W : World) (t e : TypeId) (ht : Try.prog.underlying t = some (.slice e)) (hz : ∀ w, (Go.sizeOf e).run Try.prog w = .ok 1 w) (A : Option Addr) (len cap k : Nat) (hk : k ≤ cap) :
    (Instr.sliceAt t (.slice A len cap) none (some (.int .i64 (k : Int))) none).run Try.prog W = .ok (.slice A k cap) W := by
  have he : Try.prog.elem t = e := by simp [Program.elem, ht]
  have ht' : Try.prog.underlying t = some (.slice (Try.prog.elem t)) := by rw [he]; exact ht
  rw [run_sliceAt_slice W t _ _ _ _ ht', run_slice_h W t A len cap ht' .i64 k (by omega) (by omega), he, hz]
  show Result.ok (sliced A 0 (k : Int).toNat cap 1) W = _
  unfold sliced
  have e1 : (if cap = 0 then A else A.map fun x => x.add (0 * 1)) = A := by
    split
    · rfl
    · cases A with
      | none => rfl
      | some x => show some (x.add (0 * 1)) = _; rw [Nat.zero_mul, add_zero_in]
  rw [e1, Int.toNat_natCast, Nat.sub_zero, Nat.sub_zero]
theorem size_u8 : ∀ w, (Go.sizeOf 5).run Try.prog w = .ok 1 w := fun w => by kernel_rfl
theorem size_i8 : ∀ w, (Go.sizeOf 32).run Try.prog w = .ok 1 w := fun w => by kernel_rfl
/-- Four answers of Do. -/
theorem do_open {B : Bd} (n : Int) (op : Bool) (a k : Nat) (hn : rowI n = some ⟨[], 0, 0, true, a⟩) (ha : ∀ B, actB a B = openB k [] B) (hd : B.P.length < 32) : doB n B = (0, openB k [] B) := by
  unfold doB
  rw [hn]
  have h1 : fitsB ⟨[], 0, 0, true, a⟩ B.P = true := by unfold fitsB endsB; simp
  have h2 : roomB ⟨[], 0, 0, true, a⟩ B = true := by unfold roomB; simp [hd]
  simp only [h1, h2, if_true]
  rw [ha]
theorem do_begin {B : Bd} (hd : B.P.length < 32) : doB 4 B = (0, openB 2 [] B) := do_open 4 true 3 2 rfl (fun _ => rfl) hd
theorem do_full {B : Bd} (n : Int) (r : Rw) (hn : rowI n = some r) (hf : fitsB r B.P = true) (hr : roomB r B = false) : doB n B = (-8, B) := by
  unfold doB
  rw [hn]
  simp only [hf, hr, if_true]
  rfl
theorem do_miss {B : Bd} (n : Int) (r : Rw) (hn : rowI n = some r) (hf : fitsB r B.P = false) : doB n B = (-22, B) := by
  unfold doB
  rw [hn]
  simp only [hf]
  rfl
theorem do_fine {B : Bd} (n : Int) (r : Rw) (hn : rowI n = some r) (hf : fitsB r B.P = true) (hr : roomB r B = true) : doB n B = (0, actB r.act (if r.lays = 0 then B else layB ⟨r.lays, 0, 0⟩ B)) := by
  unfold doB
  rw [hn]
  simp only [hf, hr, if_true]
theorem ends_nil (P : List Pk) : endsB [] P = true := by unfold endsB; simp
theorem ends_snoc (C : List Pk) (q : Pk) : endsB [q.k] (C ++ [q]) = true := by unfold endsB; rw [decide_eq_true_eq]; exact ⟨C.map Pk.k, by simp⟩
theorem ends_no {C : List Pk} {q : Pk} {k : Nat} (h : q.k ≠ k) : endsB [k] (C ++ [q]) = false := by
  rw [Bool.eq_false_iff]
  intro ht
  obtain ⟨D, r, e, hr⟩ := ends_one ht
  have := (List.append_inj' e rfl).2
  have : q = r := by simpa using this
  exact h (this ▸ hr)
end Go.Proofs.Ytnclfopdgilgaaa
