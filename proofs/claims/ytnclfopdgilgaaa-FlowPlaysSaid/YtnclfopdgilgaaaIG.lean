/- Layer 10: the memory of the document's search: numbers in a block, two rows beside it. Condition: the rows are short of 1000000000. -/
import Derived.Test.YtnclfopdgilgaaaJI
namespace Go.Proofs.Ytnclfopdgilgaaa
open Go.RowKit
set_option linter.unusedVariables false

/-- o in the block b, T and M in rows of their own. -/
structure Rm (w0 w : World) (b : Nat) (o : List Int) (z y : Value) (T M : List Int) : Prop where
  iv : Iv w b o
  r1 : Ir w w0.heap.size z T
  r2 : Ir w w0.heap.size y M
  n1 : z.ownBlock ≠ some b
  n2 : y.ownBlock ≠ some b
  n12 : ∀ g, z.ownBlock = some g → y.ownBlock ≠ some g
  m : Mod [] w0 w
  nb : w0.heap.size ≤ b
theorem Rm.far {w0 w w' : World} {b : Nat} {o : List Int} {z y : Value} {T M : List Int} (h : Rm w0 w b o z y T M) (m : Mod [] w w') : Rm w0 w' b o z y T M := ⟨h.iv.far m, h.r1.far m, h.r2.far m, h.n1, h.n2, h.n12, h.m.trans m, h.nb⟩
theorem Rm.drop {w0 w : World} {b : Nat} {o : List Int} {z y : Value} {T M : List Int} (h : Rm w0 w b o z y T M) : Rm w0 w b o (.slice none 0 0) (.slice none 0 0) [] [] :=
  ⟨h.iv, Ir.nil _ _, Ir.nil _ _, (by intro e; cases e), (by intro e; cases e), (fun g e => by cases e), h.m, h.nb⟩
theorem Rm.set {w0 w : World} {b : Nat} {o : List Int} {z y : Value} {T M : List Int} (h : Rm w0 w b o z y T M) (k : Nat) (v : Int) : Rm w0 (w.setCell ⟨b, k, none⟩ (.int .i64 v)) b (o.set k v) z y T M :=
  ⟨h.iv.set k v, h.r1.keep (set_mod _ _ _ _) h.n1, h.r2.keep (set_mod _ _ _ _) h.n2, h.n1, h.n2, h.n12, h.m.then (set_mod _ _ _ _) (by simpa using h.nb), h.nb⟩
theorem Ir.beside {w w' : World} {base : Nat} {y z : Value} {M : List Int} (h : Ir w base y M) (m : Mod z.ownBlock.toList w w') (hz : ∀ g, z.ownBlock = some g → y.ownBlock ≠ some g) : Ir w' base y M :=
  row_keep h (U := y.ownBlock.toList) ⟨_, m, fun x hx hs => hz x (by simpa using hs) (by simpa using hx)⟩ (fun g hg => by simp [hg])
/-- One number appended to a row, in a world that has it in a new block. -/
theorem Ir.more {w : World} {base : Nat} {z : Value} {T : List Int} (h : Ir w base z T) (hb : base ≤ w.heap.size) (hl : T.length ≤ 1000000000) (t : Int) :
    ∃ A n cap w', (appInts 46 #[z, .slice (some ⟨w.heap.size, 0, none⟩) 1 1]).run Try.prog (w.alloc (.cells #[.int .i64 t] 3)) = .ok (.slice A n cap) w' ∧ n = T.length + 1 ∧ Ir w' base (.slice A n cap) (T ++ [t]) ∧ Mod z.ownBlock.toList w w' ∧ ((Value.slice A n cap).ownBlock = z.ownBlock ∨ (Value.slice A n cap).ownBlock = some (w.heap.size + 1)) := by
  have h' := h.far ((Mod.refl [] w).alloc (.cells #[.int .i64 t] 3))
  obtain ⟨A, n, cap, w', h1, h2, h3, h4, h5⟩ := h'.app1 (by rw [size_allocI]; omega) hl 46 ⟨w.heap.size, 0, none⟩ 1 t (one_int w t)
  have mm : Mod z.ownBlock.toList (w.alloc (.cells #[.int .i64 t] 3)) w' := Mod.of_grown h4 (by simp)
  exact ⟨A, n, cap, w', h1, h2, h3, ((Mod.refl _ w).alloc _).trans mm, by rw [size_allocI] at h5; exact h5⟩
theorem Rm.appT {w0 w : World} {b : Nat} {o : List Int} {z y : Value} {T M : List Int} (h : Rm w0 w b o z y T M) (hl : T.length ≤ 1000000000) (t : Int) :
    ∃ A n cap w', (appInts 46 #[z, .slice (some ⟨w.heap.size, 0, none⟩) 1 1]).run Try.prog (w.alloc (.cells #[.int .i64 t] 3)) = .ok (.slice A n cap) w' ∧ n = T.length + 1 ∧ Rm w0 w' b o (.slice A n cap) y (T ++ [t]) M ∧ Mod z.ownBlock.toList w w' := by
  obtain ⟨A, n, cap, w', h1, h2, h3, h4, h5⟩ := h.r1.more h.m.size hl t
  refine ⟨A, n, cap, w', h1, h2, ⟨h.iv.mod h4 fun hb => h.n1 (by simpa using hb), h3, h.r2.beside h4 h.n12, ?_, h.n2, fun g hg => ?_, h.m.then h4 fun x hx => Or.inr (h.r1.own x (by simpa using hx)).1, h.nb⟩, h4⟩
  · rcases h5 with e | e
    · rw [e]; exact h.n1
    · rw [e]; intro e2; injection e2 with e2; have := h.iv.lt; omega
  · rcases h5 with e | e
    · rw [e] at hg; exact h.n12 g hg
    · rw [e] at hg
      injection hg with hg
      intro e2
      have := (h.r2.own g e2).2
      omega
theorem Rm.appM {w0 w : World} {b : Nat} {o : List Int} {z y : Value} {T M : List Int} (h : Rm w0 w b o z y T M) (hl : M.length ≤ 1000000000) (t : Int) :
    ∃ A n cap w', (appInts 46 #[y, .slice (some ⟨w.heap.size, 0, none⟩) 1 1]).run Try.prog (w.alloc (.cells #[.int .i64 t] 3)) = .ok (.slice A n cap) w' ∧ n = M.length + 1 ∧ Rm w0 w' b o z (.slice A n cap) T (M ++ [t]) ∧ Mod y.ownBlock.toList w w' := by
  obtain ⟨A, n, cap, w', h1, h2, h3, h4, h5⟩ := h.r2.more h.m.size hl t
  refine ⟨A, n, cap, w', h1, h2, ⟨h.iv.mod h4 fun hb => h.n2 (by simpa using hb), h.r1.beside h4 (fun g hg e => h.n12 g e hg), h3, h.n1, ?_, fun g hg => ?_, h.m.then h4 fun x hx => Or.inr (h.r2.own x (by simpa using hx)).1, h.nb⟩, h4⟩
  · rcases h5 with e | e
    · rw [e]; exact h.n2
    · rw [e]; intro e2; injection e2 with e2; have := h.iv.lt; omega
  · rcases h5 with e | e
    · rw [e]; exact h.n12 g hg
    · rw [e]
      intro e2
      injection e2 with e2
      have := (h.r1.own g hg).2
      omega
theorem Ir.at {w : World} {base : Nat} {A : Option Addr} {n cap : Nat} {Y : List Int} (h : Ir w base (.slice A n cap) Y) : IntsAt w A Y := by
  obtain ⟨A', c', e, h2, _⟩ := h.opened
  injection e with e1 _ _
  rw [e1]
  exact h2
/-- A number appended to each row. -/
theorem Rm.both {w0 w : World} {b : Nat} {o : List Int} {z y : Value} {T M : List Int} (h : Rm w0 w b o z y T M) (hl : T.length ≤ 1000000000) (hk : M.length ≤ 1000000000) (t m : Int) :
    ∃ A1 n1 c1 w1 A2 n2 c2 w2, (appInts 46 #[z, .slice (some ⟨w.heap.size, 0, none⟩) 1 1]).run Try.prog (w.alloc (.cells #[.int .i64 t] 3)) = .ok (.slice A1 n1 c1) w1 ∧ (appInts 46 #[y, .slice (some ⟨w1.heap.size, 0, none⟩) 1 1]).run Try.prog (w1.alloc (.cells #[.int .i64 m] 3)) = .ok (.slice A2 n2 c2) w2 ∧ n1 = T.length + 1 ∧ n2 = M.length + 1 ∧ Iv w1 b o ∧ Rm w0 w2 b o (.slice A1 n1 c1) (.slice A2 n2 c2) (T ++ [t]) (M ++ [m]) ∧ Mod (z.ownBlock.toList ++ y.ownBlock.toList) w w2 := by
  obtain ⟨A1, n1, c1, w1, e1, l1, h1, m1⟩ := h.appT hl t
  obtain ⟨A2, n2, c2, w2, e2, l2, h2, m2⟩ := h1.appM hk m
  exact ⟨A1, n1, c1, w1, A2, n2, c2, w2, e1, e2, l1, l2, h1.iv, h2, (m1.up (by simp +contextual)).then m2 (fun x hx => Or.inl (by simp only [List.mem_append]; exact Or.inr hx))⟩
end Go.Proofs.Ytnclfopdgilgaaa
