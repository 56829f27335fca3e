/- Layer 8 (package source): how many sources there are, the last one, what is told of it. Condition: the block is an input (Inp). -/
import Derived.Test.YtmbcjphgjdffmaaS8A
import Derived.Deep.Cut
import Derived.Deep.DeepCutAuto
import Derived.Deep.QuietTactic
import Derived.BigQuiet
import Derived.Deep.RegionHeld3
namespace Go.Proofs.Ytmbcjphgjdffmaa
open Go.RowKit
set_option linter.unusedVariables false

theorem depth_none (w : World) : Calls Try.prog 16 #[.pointer none] w fun e w' => e = .returned (.int .i64 0) ∧ w = w' := by
  go_enter Try.func16, Try.ntmps16
  go_wp2
  go_ret
  exact ⟨rfl, rfl⟩
theorem depthV_calls {w : World} {p : Nat} {v : Value} {L : List Sc} {M : Nat} (h : InpV w p v L M) : Calls Try.prog 16 #[Pt p] w fun e w' => e = .returned (.int .i64 (L.length : Int)) ∧ w = w' := by
  obtain ⟨A, cap, rfl⟩ := h.opened
  have h0 := h.c0
  clear h
  go_enter Try.func16, Try.ntmps16
  go_wp2
  go_ret
  exact ⟨rfl, rfl⟩
theorem depth_calls {w : World} {p : Nat} {S : List Nat} {L : List Sc} {M : Nat} (h : Inp w p S L M) : Calls Try.prog 16 #[Pt p] w fun e w' => e = .returned (.int .i64 (L.length : Int)) ∧ w = w' := by
  obtain ⟨v, h, _⟩ := h
  exact depthV_calls h
/-- Block b is a source of the call's own that no input has: nothing in it. -/
structure Bare (w : World) (b : Nat) : Prop where
  c0 : w.cell? ⟨b, 0, none⟩ = some (.string (str []))
  c1 : w.cell? ⟨b, 1, none⟩ = some (.int .i64 0)
  c2 : w.cell? ⟨b, 2, none⟩ = some (.int .i64 0)
  f : ∀ i, w.frozen? ⟨b, i, none⟩ = false
  lt : b < w.heap.size
theorem Bare.new (w : World) : Bare (w.alloc (.cells #[.string (str []), .int .i64 0, .int .i64 0] 50)) w.heap.size := by
  have hb := (MapKept.heap_alloc w (.cells #[.string (str []), .int .i64 0, .int .i64 0] 50)).1
  refine ⟨?_, ?_, ?_, fun i => ?_, ?_⟩
  · simp only [World.cell?, hb]; rfl
  · simp only [World.cell?, hb]; rfl
  · simp only [World.cell?, hb]; rfl
  · simp only [World.frozen?, hb]; rfl
  · show _ < (w.heap.push _).size; simp
theorem last_bare (v : Value) (w : World) (hd : Calls Try.prog 16 #[v] w fun e w' => e = .returned (.int .i64 0) ∧ w = w') :
    Calls Try.prog 20 #[v] w fun e w' => e = .returned (Pt w.heap.size) ∧ Bare w' w.heap.size ∧ Mod [] w w' := by
  have H := Lib.hid hd
  clear hd
  go_enter Try.func20, Try.ntmps20
  go_wp2_with fail
  refine (H.out).mono ?_
  rintro e w1 ⟨rfl, rfl⟩
  go_wp2_with fail
  go_ret
  exact ⟨rfl, Bare.new w, (Mod.refl [] w).alloc _⟩
theorem last_calls {w : World} {p g cap n : Nat} {B : List Sc} {x : Sc} {M : Nat} (h : InpV w p (.slice (some ⟨g, 0, none⟩) n cap) (B ++ [x]) M) :
    Calls Try.prog 20 #[Pt p] w fun e w' => e = .returned (.pointer (some ⟨g, B.length * 3, none⟩)) ∧ w = w' := by
  have H := Lib.hid (depthV_calls h)
  obtain ⟨g', cap', e, _⟩ := h.top
  injection e with e1 e2 e3
  subst e2
  have hl : (B ++ [x]).length = B.length + 1 := by simp
  have h0 := h.c0
  have hd := h.dep
  rw [hl] at H hd
  obtain ⟨k, hk⟩ : ∃ k, k = B.length := ⟨_, rfl⟩
  rw [← hk] at H h0 hd ⊢
  clear h e1 e3 hl hk
  go_enter Try.func20, Try.ntmps20
  go_wp2_with fail
  refine (H.out).mono ?_
  rintro e w1 ⟨rfl, rfl⟩
  go_wp2_with fail
  go_ret
  exact ⟨by simp, rfl⟩
end Go.Proofs.Ytmbcjphgjdffmaa
