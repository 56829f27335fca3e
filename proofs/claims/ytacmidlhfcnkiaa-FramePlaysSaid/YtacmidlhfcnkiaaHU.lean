/- Layer 14: towards FramePlays: both new; a row kept beside; a depth. No condition. -/
import Derived.Test.YtacmidlhfcnkiaaHT
namespace Go.Proofs.Ytacmidlhfcnkiaa
open Go.RowKit
set_option linter.unusedVariables false

/-- Both are new. -/
theorem new_two {w0 w1 w2 : World} {p : Nat} (m1 : Mod [] w0 w1) (hF : Fr TP w2 p [p] []) (m2 : Mod [] w1 w2) (hp : w1.heap.size ≤ p) : Fp w0 (w2.alloc (.cells #[.slice none 0 0] TR)) p w2.heap.size [] [] [] := by
  have mA := al_mod w2 (.cells #[.slice none 0 0] TR)
  have hpl := hF.lt p (by simp)
  have h0 := m1.size
  have h1 := m2.size
  refine ⟨[p], [w2.heap.size], hF.far mA, fr_empty TR w2, fun x hx => ?_, fun x hx => ?_, (m1.trans m2).trans mA, by simp⟩
  · rw [List.mem_singleton.1 hx]
    exact ⟨by omega, by simp; omega⟩
  · rw [List.mem_singleton.1 hx]
    omega
/-- A row that was made behind is kept beside. -/
theorem Fp.own {w0 w w' : World} {p q : Nat} {L M : List Fm} {D : List Nat} {v : Value} (h : Fp w0 w p q L M D) (m : Mod [] w w') (hv : ∀ g, v.ownBlock = some g → w.heap.size ≤ g ∧ g < w'.heap.size) : Fp w0 w' p q L M (v.ownBlock.toList ++ D) := by
  obtain ⟨T, U, hP, hR, hT, hU, m0, hD⟩ := h
  refine ⟨T, U, hP.far m, hR.far m, hT, hU, m0.trans m, fun b hb => ?_⟩
  rcases List.mem_append.1 hb with hb | hb
  · have hb' := hv b (by simpa using hb)
    exact ⟨hP.above hb'.1, hR.above hb'.1, hb'.2⟩
  · exact ⟨(hD b hb).1, (hD b hb).2.1, Nat.lt_of_lt_of_le (hD b hb).2.2 m.size⟩
/-- The document's slice. -/
theorem Fp.cellR {w0 w : World} {p q : Nat} {L M : List Fm} {D : List Nat} (h : Fp w0 w p q L M D) : ∃ A cap, w.cell? ⟨q, 0, none⟩ = some (.slice A M.length cap) ∧ (M.length : Int) ≤ 128 := by
  obtain ⟨T, U, hP, ⟨v, O, hv, rfl, rfl, hsm⟩, _⟩ := h
  obtain ⟨A, cap, e, _⟩ := hv.slice
  refine ⟨A, cap, ?_, by have := hv.few; simp; omega⟩
  rw [hv.c0, e, List.length_map]
/-- An act, whichever. -/
def DoesOK : Prop := ∀ (w0 w : World) (p q : Nat) (L : List Fm) (D : List Nat), Fp w0 w p q L L D → ∀ c : Ac, Good w0 c → Calls Try.prog 13 #[Pt p, Pt q, .agg (cellsY c.u c.f c.s c.n c.x)] w (Done w0 w p q D)
theorem does_all (hset : ∀ {w0 w : World} {p q : Nat} {L : List Fm} {D : List Nat}, Fp w0 w p q L L D → ∀ u : Int, Int.tmod u 9 = 7 → ∀ (f : Fm) (s : Value) (n x : Int), Calls Try.prog 13 #[Pt p, Pt q, .agg (cellsY u f s n x)] w (Done w0 w p q D)) : DoesOK := by
  intro w0 w p q L D h c hg
  obtain ⟨hs, hb, h0, h1⟩ := hg
  have hs' := fun W (m : Mod [] w0 W) => hs.far m
  obtain ⟨r, hr, hu⟩ : ∃ r : Nat, r < 9 ∧ Int.tmod c.u 9 = (r : Int) := ⟨(c.u % 9).toNat, by omega, by rw [Int.tmod_eq_emod_of_nonneg h0]; omega⟩
  rcases (show r = 0 ∨ r = 1 ∨ r = 2 ∨ r = 3 ∨ r = 4 ∨ r = 5 ∨ r = 6 ∨ r = 7 ∨ r = 8 by omega) with rfl | rfl | rfl | rfl | rfl | rfl | rfl | rfl | rfl
  · exact does_push h c.u hu c.f c.s hs' hb c.n c.x
  · exact does_pop h c.u hu c.f c.s c.n c.x
  · exact does_top h c.u hu c.f c.s c.n c.x
  · exact does_cut h c.u hu c.f c.s c.n c.x
  · exact does_index h c.u hu c.f c.s c.n c.x
  · exact does_step h c.u hu c.f c.s c.n c.x
  · exact does_get h c.u hu c.f c.s c.n c.x
  · exact hset h c.u hu c.f c.s c.n c.x
  · exact does_catch h c.u hu c.f c.s c.n c.x
end Go.Proofs.Ytacmidlhfcnkiaa
