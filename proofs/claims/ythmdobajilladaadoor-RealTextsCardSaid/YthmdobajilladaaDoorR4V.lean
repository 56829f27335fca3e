/- The document's answers for layer 4: what a cell is, by its sign and rung; a block of four cells. Condition: cells are integers of 64 bits. -/
import Derived.Test.YthmdobajilladaaDoorR4U
namespace Go.Proofs.YthmdobajilladaaDoor
open Go.RowKit
set_option linter.unusedVariables false
open Ieee (double)

theorem fbits_wrap (f : Int) : IntKind.u64.wrap f = (fbits f : Int) := by unfold fbits; rw [IntKind.wrap_u64]; omega
theorem sign_word (f : Int) (hf : I64 f) (s : Bool) (r : Nat) (h : r < 9223372036854775808) (hx : fbits f = double.word s r) : decide (f < 0) = s := by
  have e := fbits_wrap f
  rw [hx, word_d, IntKind.wrap_u64] at e
  unfold I64 at hf
  cases s
  · apply decide_eq_false; simp at e; omega
  · apply decide_eq_true; simp at e; omega
theorem frac_word (s : Bool) (r : Nat) (h : r < 9223372036854775808) : ((double.word s r : Nat) : Int) % 4503599627370496 = ((r % 4503599627370496 : Nat) : Int) ∧ ((double.word s r : Nat) : Int) / 4503599627370496 % 2048 = ((r / 4503599627370496 : Nat) : Int) := by
  rw [word_d]
  cases s <;> simp <;> omega
/-- What a finite cell is. -/
theorem ropen_word (f : Int) (hf : I64 f) (s : Bool) (r : Nat) (hx : fbits f = double.word s r) (h : r < 9218868437227405312) (w : World) :
    Calls Tryd.prog 30 #[.int .i64 f] w fun e w' => e = .returned (.agg #[.int .i64 2, .bool s, .int .u64 (rM r : Int), .int .i64 (rE r)]) ∧ Ext w w' := by
  obtain ⟨e1, e2⟩ := frac_word s r (by omega)
  have hs := sign_word f hf s r (by omega) hx
  have ex := fbits_wrap f
  have hl := fbits_lt f
  rw [hx] at ex hl
  by_cases c : r < 4503599627370496
  · have k := ropen_sub f _ (r % 4503599627370496) s hs ex e1 (by rw [e2]; omega) (Nat.mod_lt _ (by decide)) hl w
    have m1 : rM r = r := by unfold rM; rw [if_pos c]
    have m2 : rE r = -1074 := by unfold rE; rw [if_pos c]
    rw [Nat.mod_eq_of_lt c] at k
    rw [m1, m2]
    exact k
  · have k := ropen_fin f _ (r % 4503599627370496) (r / 4503599627370496) s hs ex e1 e2 (Nat.mod_lt _ (by decide)) (by omega) (by omega) hl w
    have m1 : ((rM r : Nat) : Int) = ((r % 4503599627370496 : Nat) : Int) + 4503599627370496 := by unfold rM; rw [if_neg c]; omega
    have m2 : rE r = ((r / 4503599627370496 : Nat) : Int) - 1075 := by unfold rE; rw [if_neg c]
    rw [m1, m2]
    exact k
theorem ropen_winf (f : Int) (hf : I64 f) (s : Bool) (hx : fbits f = double.word s 9218868437227405312) (w : World) :
    Calls Tryd.prog 30 #[.int .i64 f] w fun e w' => e = .returned (.agg #[.int .i64 1, .bool s, .int .u64 0, .int .i64 0]) ∧ Ext w w' := by
  obtain ⟨e1, e2⟩ := frac_word s 9218868437227405312 (by decide)
  have hs := sign_word f hf s _ (by decide) hx
  have ex := fbits_wrap f
  have hl := fbits_lt f
  rw [hx] at ex hl
  exact ropen_inf f _ s hs ex (by rw [e1]; decide) (by rw [e2]; decide) hl w
theorem ropen_wnan (f : Int) (hf : I64 f) (h : isN (fbits f) = true) : ∃ (s : Bool) (m : Int), ∀ w, Calls Tryd.prog 30 #[.int .i64 f] w fun e w' => e = .returned (.agg #[.int .i64 0, .bool s, .int .u64 m, .int .i64 0]) ∧ Ext w w' := by
  have hl := fbits_lt f
  have hw := word_split (fbits f) hl
  have hr : fbits f % 9223372036854775808 < 9223372036854775808 := Nat.mod_lt _ (by decide)
  have hr2 : 9218868437227405312 < fbits f % 9223372036854775808 := by
    apply Nat.lt_of_not_le
    intro q
    rw [hw, isN_word _ q] at h
    cases h
  generalize decide (9223372036854775808 ≤ fbits f) = s at *
  generalize hrr : fbits f % 9223372036854775808 = r at *
  obtain ⟨e1, e2⟩ := frac_word s r hr
  have hs := sign_word f hf s r hr hw
  have ex := fbits_wrap f
  rw [hw] at ex hl
  refine ⟨s, _, fun w => ropen_nan f _ (r % 4503599627370496) s hs ex e1 (by rw [e2]; omega) (by rw [bne_iff_ne]; omega) hl w⟩
/-- Block b of w holds four cells; the last two may be written. -/
structure Own4 (w : World) (b : Nat) (k n m e : Value) : Prop where
  c0 : w.cell? ⟨b, 0, none⟩ = some k
  c1 : w.cell? ⟨b, 1, none⟩ = some n
  c2 : w.cell? ⟨b, 2, none⟩ = some m
  c3 : w.cell? ⟨b, 3, none⟩ = some e
  f2 : w.frozen? ⟨b, 2, none⟩ = false
  f3 : w.frozen? ⟨b, 3, none⟩ = false
  lt : b < w.heap.size
theorem Own4.ext {w w' : World} {b : Nat} {k n m e : Value} (h : Own4 w b k n m e) (x : Ext w w') : Own4 w' b k n m e :=
  ⟨ext_keeps x h.c0, ext_keeps x h.c1, ext_keeps x h.c2, ext_keeps x h.c3, (x.2 _).trans h.f2, (x.2 _).trans h.f3, Nat.lt_of_lt_of_le h.lt x.1.size⟩
theorem Own4.last {X : World} {k n m e : Value} {t : TypeId} : Own4 (X.alloc (.cells #[k, n, m, e] t)) X.heap.size k n m e := by
  have hb : (X.alloc (.cells #[k, n, m, e] t)).heap[X.heap.size]? = some (.cells #[k, n, m, e] t) := (MapKept.heap_alloc X _).1
  have hlt : X.heap.size < (X.alloc (.cells #[k, n, m, e] t)).heap.size := by show X.heap.size < (X.heap.push _).size; simp
  refine ⟨?_, ?_, ?_, ?_, ?_, ?_, hlt⟩
  · simp only [World.cell?, hb]; rfl
  · simp only [World.cell?, hb]; rfl
  · simp only [World.cell?, hb]; rfl
  · simp only [World.cell?, hb]; rfl
  · simp only [World.frozen?, hb]; rfl
  · simp only [World.frozen?, hb]; rfl
theorem Own4.set {w : World} {b : Nat} {k n m e : Value} (h : Own4 w b k n m e) (u v : Value) : Own4 ((w.setCell ⟨b, 2, none⟩ u).setCell ⟨b, 3, none⟩ v) b k n u v := by
  have hne : ∀ i j : Nat, i ≠ j → (⟨b, i, none⟩ : Addr) ≠ ⟨b, j, none⟩ := fun i j hij q => hij (by injection q)
  refine ⟨?_, ?_, ?_, ?_, ?_, ?_, ?_⟩
  · rw [World.cell?_setCell_other (h := hne 3 0 (by decide)), World.cell?_setCell_other (h := hne 2 0 (by decide))]; exact h.c0
  · rw [World.cell?_setCell_other (h := hne 3 1 (by decide)), World.cell?_setCell_other (h := hne 2 1 (by decide))]; exact h.c1
  · rw [World.cell?_setCell_other (h := hne 3 2 (by decide))]; exact World.cell?_setCell_same _ _ _ (h := h.c2)
  · refine World.cell?_setCell_same _ _ _ (u := e) (h := ?_)
    rw [World.cell?_setCell_other (h := hne 2 3 (by decide))]; exact h.c3
  · rw [World.frozen?_setCell, World.frozen?_setCell]; exact h.f2
  · rw [World.frozen?_setCell, World.frozen?_setCell]; exact h.f3
  · simpa [World.setCell] using h.lt
theorem Ext.set4 {a b : World} (h : Ext a b) {n : Nat} (hn : a.heap.size ≤ n) (u v : Value) : Ext a ((b.setCell ⟨n, 2, none⟩ u).setCell ⟨n, 3, none⟩ v) := (h.setCell hn u).setCell hn v
end Go.Proofs.YthmdobajilladaaDoor
