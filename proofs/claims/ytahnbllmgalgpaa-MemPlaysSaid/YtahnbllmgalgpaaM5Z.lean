/- Layer 5: acts that came in. Condition: the argument is a slice of acts. -/
import Derived.Test.YtahnbllmgalgpaaRows
import Derived.Test.YtahnbllmgalgpaaM5L
import Derived.Deep.Slices
import Derived.ProofKit
import Derived.OpenShut
namespace Go.Proofs.Ytahnbllmgalgpaa
open Go.RowKit Go.ChangeShapes Go.WideShapes Go.ChangeAt Go.Deep
set_option linter.unusedVariables false

theorem Try.cellsAct : Try.prog.cellsOf 35 = 4 := by kernel_rfl
theorem Try.cellsByte : Try.prog.cellsOf 5 = 1 := by kernel_rfl
theorem Try.cellsCell : Try.prog.cellsOf 33 = 1 := by kernel_rfl
/-- An act in four cells. -/
def IsAct (W : World) (b o : Nat) : Prop := ∃ k x y z : Int, W.cell? ⟨b, o, none⟩ = some (.int .u8 k) ∧ W.cell? ⟨b, o + 1, none⟩ = some (.int .i64 x) ∧ W.cell? ⟨b, o + 2, none⟩ = some (.int .i64 y) ∧ W.cell? ⟨b, o + 3, none⟩ = some (.int .i64 z) ∧
  (Lit.int .u8 k).wf = true ∧ (Lit.int .i64 x).wf = true ∧ (Lit.int .i64 y).wf = true ∧ (Lit.int .i64 z).wf = true
def IsActs (W : World) (A : Option Addr) (len cap : Nat) : Prop := len ≤ cap ∧ cap ≤ 9223372036854775807 ∧ ∀ i, i < len → ∃ b o, A = some ⟨b, o, none⟩ ∧ IsAct W b (o + i * 4)
theorem act_open {H : Type} {enc : TypeId × Value → H} {W : World} {base n : Nat} {sp : Nat → Bool} {held : Bool} {cs : List Value} {d : DataW H × List MemPlace} (h : DataW.trod enc Try.prog W base sp held n 35 cs = some d) :
    ∃ k x y z : Int, cs = [.int .u8 k, .int .i64 x, .int .i64 y, .int .i64 z] ∧ (Lit.int .u8 k).wf = true ∧ (Lit.int .i64 x).wf = true ∧ (Lit.int .i64 y).wf = true ∧ (Lit.int .i64 z).wf = true := by
  obtain ⟨xs, n', _, _, hlen, hxl, hf⟩ := DataW.trod_struct Try.underlying35 h
  rw [Try.cellsAct] at hlen
  match cs, hlen with
  | [c0, c1, c2, c3], _ =>
    match xs, hxl with
    | [y0, y1, y2, y3], _ =>
      have e0 : DataW.trod enc Try.prog W base sp held n' 5 (([c0, c1, c2, c3].drop 0).take (Try.prog.cellsOf 5)) = some y0 := hf 0 _ rfl
      have e1 : DataW.trod enc Try.prog W base sp held n' 33 (([c0, c1, c2, c3].drop 1).take (Try.prog.cellsOf 33)) = some y1 := hf 1 _ rfl
      have e2 : DataW.trod enc Try.prog W base sp held n' 33 (([c0, c1, c2, c3].drop 2).take (Try.prog.cellsOf 33)) = some y2 := hf 2 _ rfl
      have e3 : DataW.trod enc Try.prog W base sp held n' 33 (([c0, c1, c2, c3].drop 3).take (Try.prog.cellsOf 33)) = some y3 := hf 3 _ rfl
      rw [Try.cellsByte] at e0
      rw [Try.cellsCell] at e1 e2 e3
      obtain ⟨k, k1, _, k2⟩ := DataW.trod_int Try.underlying5 e0
      obtain ⟨x, x1, _, x2⟩ := DataW.trod_int Try.underlying33 e1
      obtain ⟨y, z1, _, z2⟩ := DataW.trod_int Try.underlying33 e2
      obtain ⟨z, u1, _, u2⟩ := DataW.trod_int Try.underlying33 e3
      simp at k1 x1 z1 u1
      subst k1 x1 z1 u1
      exact ⟨k, x, y, z, rfl, k2, x2, z2, u2⟩
theorem acts_open {H : Type} {enc : TypeId × Value → H} {W : World} {base n : Nat} {sp : Nat → Bool} {held : Bool} {A : Option Addr} {len cap : Nat} {d : DataW H × List MemPlace} (h : DataW.trod enc Try.prog W base sp held n 23 [.slice A len cap] = some d) :
    IsActs W A len cap := by
  rcases open_slice Try.underlying23 h with ⟨hcs, _⟩ | ⟨a, l, c, m, n2, D, Pl, hcs, _, hl, hc, hm, _, hi⟩
  · simp at hcs
    obtain ⟨rfl, rfl, rfl⟩ := hcs
    exact ⟨Nat.le_refl _, by omega, fun i hi => absurd hi (by omega)⟩
  · simp at hcs
    obtain ⟨rfl, rfl, rfl⟩ := hcs
    refine ⟨hl, by unfold maxLen at hc; omega, fun i hil => ?_⟩
    have him : i < m := by rw [hm]; split <;> omega
    obtain ⟨cs', hcc, ht⟩ := hi i him
    rw [Try.cellsAct] at hcc
    obtain ⟨k, x, y, z, rfl, k2, x2, y2, z2⟩ := act_open ht
    obtain ⟨_, _, hat⟩ := World.cells?_some hcc
    have h0 := hat 0 (by omega)
    have h1 := hat 1 (by omega)
    have h2 := hat 2 (by omega)
    have h3 := hat 3 (by omega)
    have hs : a.spot = none := by
      obtain ⟨cs0, hcc0, ht0⟩ := hi 0 (by omega)
      obtain ⟨k0, x0, y0, z0, rfl, _⟩ := act_open ht0
      rw [Try.cellsAct, Nat.zero_mul, addr_zero] at hcc0
      obtain ⟨_, _, hat0⟩ := World.cells?_some hcc0
      have q := hat0 0 (by omega)
      rw [addr_zero] at q
      exact World.cell?_spot (q.trans rfl)
    obtain ⟨b, o, s⟩ := a
    simp only at hs
    subst hs
    rw [Go.WideShapes.add_plain] at h0 h1 h2 h3
    rw [Go.WideShapes.add_plain] at h0 h1 h2 h3
    refine ⟨b, o, rfl, k, x, y, z, ?_, ?_, ?_, ?_, k2, x2, y2, z2⟩
    · exact h0
    · exact h1
    · exact h2
    · exact h3
theorem slice_upto4 (W : World) (A : Option Addr) (len cap k : Nat) (hk : k ≤ cap) :
    (Instr.sliceAt 23 (.slice A len cap) none (some (.int .i64 (k : Int))) none).run Try.prog W = .ok (.slice A k cap) W := by
  have ht := Try.underlying23
  have he : Try.prog.elem 23 = 35 := by simp [Program.elem, ht]
  have ht' : Try.prog.underlying 23 = some (.slice (Try.prog.elem 23)) := by rw [he]; exact ht
  have hz : (Go.sizeOf 35).run Try.prog W = .ok 4 W := by kernel_rfl
  rw [run_sliceAt_slice W _ _ _ _ _ ht', run_slice_h W _ A len cap ht' .i64 k (by omega) (by omega), he, hz]
  show Result.ok (sliced A 0 (k : Int).toNat cap 4) W = _
  unfold sliced
  have e1 : (if cap = 0 then A else A.map fun x => x.add (0 * 4)) = A := by
    split
    · rfl
    · cases A with
      | none => rfl
      | some x => show some (x.add (0 * 4)) = _; rw [Nat.zero_mul, addr_zero]
  rw [e1, Int.toNat_natCast, Nat.sub_zero, Nat.sub_zero]
theorem few_acts (w : World) (A : Option Addr) (len cap k : Nat) (hc : len ≤ cap ∧ cap ≤ 9223372036854775807) (hk : k = min len 60) :
    Calls Try.prog 13 #[.slice A len cap] w fun e w' => e = .returned (.slice A k cap) ∧ w = w' := by
  by_cases h : len ≤ 60
  · have e : k = len := by omega
    subst e
    have h1 := slice_upto4 w A k cap k (by omega)
    clear hk
    go_enter Try.func13, Try.ntmps13
    go_wp2
    go_ret
    exact ⟨rfl, rfl⟩
  · have e : k = 60 := by omega
    subst e
    have h1 : (Instr.sliceAt 23 (.slice A len cap) none (some (.int .i64 60)) none).run Try.prog w = .ok (.slice A 60 cap) w := slice_upto4 w A len cap 60 (by omega)
    clear hk
    go_enter Try.func13, Try.ntmps13
    go_wp2
    go_ret
    exact ⟨rfl, rfl⟩
end Go.Proofs.Ytahnbllmgalgpaa
