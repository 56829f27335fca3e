/- Layer 6: acts that came in. Condition: the argument is a slice of acts. -/
import Derived.Test.YtjmbmhjhnoiclaaRows
import Derived.Test.YtjmbmhjhnoiclaaS6ZB
import Derived.Test.YtjmbmhjhnoiclaaS6I
import Derived.Deep.Slices
import Derived.ProofKit
import Derived.OpenShut
namespace Go.Proofs.Ytjmbmhjhnoiclaa
open Go.RowKit Go.ChangeShapes Go.WideShapes Go.ChangeAt Go.Deep
set_option linter.unusedVariables false

theorem Try.cellsAct : Try.prog.cellsOf 33 = 3 := by kernel_rfl
theorem Try.cellsByte : Try.prog.cellsOf 5 = 1 := by kernel_rfl
theorem Try.cellsCell : Try.prog.cellsOf 31 = 1 := by kernel_rfl
theorem Try.cellsInt : Try.prog.cellsOf 3 = 1 := by kernel_rfl
/-- An act in three cells. -/
def IsAct (W : World) (b o : Nat) : Prop := ∃ k x y : Int, W.cell? ⟨b, o, none⟩ = some (.int .u8 k) ∧ W.cell? ⟨b, o + 1, none⟩ = some (.int .i64 x) ∧ W.cell? ⟨b, o + 2, none⟩ = some (.int .i64 y) ∧
  (Lit.int .u8 k).wf = true ∧ (Lit.int .i64 x).wf = true ∧ (Lit.int .i64 y).wf = true
def IsActs (W : World) (A : Option Addr) (len cap : Nat) : Prop := len ≤ cap ∧ cap ≤ 9223372036854775807 ∧ ∀ i, i < len → ∃ b o, A = some ⟨b, o, none⟩ ∧ IsAct W b (o + i * 3)
theorem act_open {H : Type} {enc : TypeId × Value → H} {W : World} {base n : Nat} {sp : Nat → Bool} {held : Bool} {cs : List Value} {d : DataW H × List MemPlace} (h : DataW.trod enc Try.prog W base sp held n 33 cs = some d) :
    ∃ k x y : Int, cs = [.int .u8 k, .int .i64 x, .int .i64 y] ∧ (Lit.int .u8 k).wf = true ∧ (Lit.int .i64 x).wf = true ∧ (Lit.int .i64 y).wf = true := by
  obtain ⟨xs, n', _, _, hlen, hxl, hf⟩ := DataW.trod_struct Try.underlying33 h
  rw [Try.cellsAct] at hlen
  match cs, hlen with
  | [c0, c1, c2], _ =>
    match xs, hxl with
    | [y0, y1, y2], _ =>
      have e0 : DataW.trod enc Try.prog W base sp held n' 5 (([c0, c1, c2].drop 0).take (Try.prog.cellsOf 5)) = some y0 := hf 0 _ rfl
      have e1 : DataW.trod enc Try.prog W base sp held n' 3 (([c0, c1, c2].drop 1).take (Try.prog.cellsOf 3)) = some y1 := hf 1 _ rfl
      have e2 : DataW.trod enc Try.prog W base sp held n' 31 (([c0, c1, c2].drop 2).take (Try.prog.cellsOf 31)) = some y2 := hf 2 _ rfl
      rw [Try.cellsByte] at e0
      rw [Try.cellsInt] at e1
      rw [Try.cellsCell] at e2
      obtain ⟨k, k1, _, k2⟩ := DataW.trod_int Try.underlying5 e0
      obtain ⟨x, x1, _, x2⟩ := DataW.trod_int Try.underlying3 e1
      obtain ⟨y, z1, _, z2⟩ := DataW.trod_int Try.underlying31 e2
      simp at k1 x1 z1
      subst k1 x1 z1
      exact ⟨k, x, y, rfl, k2, x2, z2⟩
theorem acts_open {H : Type} {enc : TypeId × Value → H} {W : World} {base n : Nat} {sp : Nat → Bool} {held : Bool} {A : Option Addr} {len cap : Nat} {d : DataW H × List MemPlace} (h : DataW.trod enc Try.prog W base sp held n 22 [.slice A len cap] = some d) :
    IsActs W A len cap := by
  rcases open_slice Try.underlying22 h with ⟨hcs, _⟩ | ⟨a, l, c, m, n2, D, Pl, hcs, _, hl, hc, hm, _, hi⟩
  · simp at hcs
    obtain ⟨rfl, rfl, rfl⟩ := hcs
    exact ⟨Nat.le_refl _, by omega, fun i hi => absurd hi (by omega)⟩
  · simp at hcs
    obtain ⟨rfl, rfl, rfl⟩ := hcs
    refine ⟨hl, by unfold maxLen at hc; omega, fun i hil => ?_⟩
    have him : i < m := by rw [hm]; split <;> omega
    obtain ⟨cs', hcc, ht⟩ := hi i him
    rw [Try.cellsAct] at hcc
    obtain ⟨k, x, y, rfl, k2, x2, y2⟩ := act_open ht
    obtain ⟨_, _, hat⟩ := World.cells?_some hcc
    have h0 := hat 0 (by omega)
    have h1 := hat 1 (by omega)
    have h2 := hat 2 (by omega)
    have hs : a.spot = none := by
      obtain ⟨cs0, hcc0, ht0⟩ := hi 0 (by omega)
      obtain ⟨k0, x0, y0, rfl, _⟩ := act_open ht0
      rw [Try.cellsAct, Nat.zero_mul, addr_zero] at hcc0
      obtain ⟨_, _, hat0⟩ := World.cells?_some hcc0
      have q := hat0 0 (by omega)
      rw [addr_zero] at q
      exact World.cell?_spot (q.trans rfl)
    obtain ⟨b, o, s⟩ := a
    simp only at hs
    subst hs
    rw [Go.WideShapes.add_plain] at h0 h1 h2
    rw [Go.WideShapes.add_plain] at h0 h1 h2
    refine ⟨b, o, rfl, k, x, y, ?_, ?_, ?_, k2, x2, y2⟩
    · exact h0
    · exact h1
    · exact h2
theorem slice_upto3 (W : World) (A : Option Addr) (len cap k : Nat) (hk : k ≤ cap) :
    (Instr.sliceAt 22 (.slice A len cap) none (some (.int .i64 (k : Int))) none).run Try.prog W = .ok (.slice A k cap) W := by
  have ht := Try.underlying22
  have he : Try.prog.elem 22 = 33 := by simp [Program.elem, ht]
  have ht' : Try.prog.underlying 22 = some (.slice (Try.prog.elem 22)) := by rw [he]; exact ht
  have hz : (Go.sizeOf 33).run Try.prog W = .ok 3 W := by kernel_rfl
  rw [run_sliceAt_slice W _ _ _ _ _ ht', run_slice_h W _ A len cap ht' .i64 k (by omega) (by omega), he, hz]
  show Result.ok (sliced A 0 (k : Int).toNat cap 3) W = _
  unfold sliced
  have e1 : (if cap = 0 then A else A.map fun x => x.add (0 * 3)) = A := by
    split
    · rfl
    · cases A with
      | none => rfl
      | some x => show some (x.add (0 * 3)) = _; rw [Nat.zero_mul, addr_zero]
  rw [e1, Int.toNat_natCast, Nat.sub_zero, Nat.sub_zero]
theorem few_acts (w : World) (A : Option Addr) (len cap k : Nat) (hc : len ≤ cap ∧ cap ≤ 9223372036854775807) (hk : k = min len 200) :
    Calls Try.prog 12 #[.slice A len cap] w fun e w' => e = .returned (.slice A k cap) ∧ w = w' := by
  by_cases h : len ≤ 200
  · have e : k = len := by omega
    subst e
    have h1 := slice_upto3 w A k cap k (by omega)
    clear hk
    go_enter Try.func12, Try.ntmps12
    go_wp2
    go_ret
    exact ⟨rfl, rfl⟩
  · have e : k = 200 := by omega
    subst e
    have h1 : (Instr.sliceAt 22 (.slice A len cap) none (some (.int .i64 200)) none).run Try.prog w = .ok (.slice A 200 cap) w := slice_upto3 w A len cap 200 (by omega)
    clear hk
    go_enter Try.func12, Try.ntmps12
    go_wp2
    go_ret
    exact ⟨rfl, rfl⟩
end Go.Proofs.Ytjmbmhjhnoiclaa
