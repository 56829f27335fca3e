/- Layer 9: several dictionaries of the program's side by side (Many), their calls. No condition. -/
import Derived.Test.YtldnpppbnakcoaaDH1
namespace Go.Proofs.Ytldnpppbnakcoaa
open Go.RowKit
set_option linter.unusedVariables false

def updD {α : Type} (D : Nat → α) (i : Nat) (x : α) : Nat → α := fun j => if j = i then x else D j
theorem updD_at {α : Type} (D : Nat → α) (i : Nat) (x : α) : updD D i x i = x := by simp [updD]
theorem updD_ne {α : Type} (D : Nat → α) {i j : Nat} (x : α) (h : j ≠ i) : updD D i x j = D j := by simp [updD, h]
theorem updD_same {α : Type} (D : Nat → α) (i : Nat) : updD D i (D i) = D := by
  funext j
  unfold updD
  split
  · rename_i e; rw [e]
  · rfl
def two {α : Type} (a b : α) : Nat → α := fun j => if j = 0 then a else b
theorem two_0 {α : Type} (a b c : α) : updD (two a b) 0 c = two c b := by
  funext j
  unfold updD two
  by_cases h : j = 0 <;> simp [h]
/-- The n dictionaries D at P were made since w0, apart from each other and from the blocks U. -/
def Many (n : Nat) (w0 w : World) (P : Nat → Nat) (D : Nat → Di) (U : List Nat) : Prop := ∃ T : Nat → List Nat, (∀ i, i < n → DM w0 w (P i) (T i) (D i)) ∧ (∀ i j, i < n → j < n → i ≠ j → ∀ x ∈ T i, x ∉ T j) ∧ (∀ i, i < n → ∀ x ∈ U, x ∉ T i) ∧ (∀ x ∈ U, x < w.heap.size) ∧ Mod [] w0 w
theorem Many.m {n : Nat} {w0 w : World} {P : Nat → Nat} {D : Nat → Di} {U : List Nat} (h : Many n w0 w P D U) : Mod [] w0 w := h.elim fun T h => h.2.2.2.2
theorem Many.far {n : Nat} {w0 w w' : World} {P : Nat → Nat} {D : Nat → Di} {U : List Nat} (h : Many n w0 w P D U) (m : Mod [] w w') : Many n w0 w' P D U := by
  obtain ⟨T, h1, h2, h3, h4, h5⟩ := h
  exact ⟨T, fun i hi => (h1 i hi).far m, h2, h3, fun x hx => Nat.lt_of_lt_of_le (h4 x hx) m.size, h5.trans m⟩
theorem Many.zero (w : World) (P : Nat → Nat) (D : Nat → Di) : Many 0 w w P D [] := ⟨fun _ => [], fun i hi => by omega, fun i j hi => by omega, fun i hi => by omega, by simp, Mod.refl _ _⟩
/-- New blocks, that were not there in w. -/
theorem Many.more {n : Nat} {w0 w w' : World} {P : Nat → Nat} {D : Nat → Di} {U V : List Nat} (h : Many n w0 w P D U) (m : Mod [] w w') (hV : ∀ x ∈ V, x ∈ U ∨ (w.heap.size ≤ x ∧ x < w'.heap.size)) : Many n w0 w' P D V := by
  obtain ⟨T, h1, h2, h3, h4, h5⟩ := h
  refine ⟨T, fun i hi => (h1 i hi).far m, h2, fun i hi x hx ht => ?_, fun x hx => ?_, h5.trans m⟩
  · rcases hV x hx with hu | ⟨hl, _⟩
    · exact h3 i hi x hu ht
    · have := (h1 i hi).r.lt x ht; omega
  · rcases hV x hx with hu | ⟨_, hl⟩
    · exact Nat.lt_of_lt_of_le (h4 x hu) m.size
    · exact hl
/-- What is stored into blocks of U. -/
theorem Many.store {n : Nat} {w0 w w' : World} {P : Nat → Nat} {D : Nat → Di} {U S : List Nat} (h : Many n w0 w P D U) (m : Mod S w w') (hS : ∀ x ∈ S, x ∈ U) (h0 : ∀ x ∈ S, w0.heap.size ≤ x) : Many n w0 w' P D U := by
  obtain ⟨T, h1, h2, h3, h4, h5⟩ := h
  exact ⟨T, fun i hi => ⟨(h1 i hi).r.mod m fun x hx hs => h3 i hi x (hS x hs) hx, (h1 i hi).m.then m fun x hx => Or.inr (h0 x hx), (h1 i hi).new⟩, h2, h3, fun x hx => Nat.lt_of_lt_of_le (h4 x hx) m.size, h5.then m fun x hx => Or.inr (h0 x hx)⟩
theorem many_of {n : Nat} {w0 w : World} {P : Nat → Nat} {D : Nat → Di} {U : List Nat} {i : Nat} {D' : Di} {r : Value} {f : Nat} {xs : Array Value} (h : Many n w0 w P D U) (hi : i < n) (k : ∀ T, Pd9 w (P i) T (D i) → Calls Try.prog f xs w (PPlays (P i) T r D' w)) :
    Calls Try.prog f xs w fun e w' => e = .returned r ∧ Many n w0 w' P (updD D i D') U ∧ Keep U w w' := by
  obtain ⟨T, h1, h2, h3, h4, h5⟩ := h
  refine (k (T i) (h1 i hi).r).mono ?_
  rintro e w' ⟨e1, T', g1, g2⟩
  have ht := (h1 i hi).turn g1 g2
  refine ⟨e1, ⟨updD T i T', fun j hj => ?_, fun j l hj hl hjl => ?_, fun j hj x hx => ?_, fun x hx => Nat.lt_of_lt_of_le (h4 x hx) g2.1.size, ht.m⟩, T i, g2.1, h3 i hi⟩
  · by_cases e : j = i
    · subst e; rw [updD_at, updD_at]; exact ht
    · rw [updD_ne _ _ e, updD_ne _ _ e]
      exact ⟨(h1 j hj).r.mod g2.1 (h2 j i hj hi e), ht.m, (h1 j hj).new⟩
  · by_cases e : j = i
    · subst e
      rw [updD_at, updD_ne _ _ (Ne.symm hjl)]
      intro x hx hxl
      exact g2.apart (U := T l) (h1 l hl).r.lt (h2 l j hl hj (Ne.symm hjl)) x hxl hx
    · rw [updD_ne _ _ e]
      by_cases e2 : l = i
      · subst e2
        rw [updD_at]
        exact g2.apart (U := T j) (h1 j hj).r.lt (h2 j l hj hl hjl)
      · rw [updD_ne _ _ e2]
        exact h2 j l hj hl hjl
  · by_cases e : j = i
    · subst e
      rw [updD_at]
      exact g2.apart (U := U) h4 (h3 j hj) x hx
    · rw [updD_ne _ _ e]
      exact h3 j hj x hx
theorem many_tells {n : Nat} {w0 w : World} {P : Nat → Nat} {D : Nat → Di} {U : List Nat} {i : Nat} {r : Value} {f : Nat} {xs : Array Value} (h : Many n w0 w P D U) (hi : i < n) (k : ∀ T, Pd9 w (P i) T (D i) → Calls Try.prog f xs w (DTells r w)) :
    Calls Try.prog f xs w fun e w' => e = .returned r ∧ Many n w0 w' P D U ∧ Mod [] w w' := by
  have h' := h
  obtain ⟨T, h1, _⟩ := h
  exact (k (T i) (h1 i hi).r).mono fun e w' ⟨e1, m⟩ => ⟨e1, h'.far m, m⟩
theorem many_new {n : Nat} {w0 w : World} {P : Nat → Nat} {D : Nat → Di} {U : List Nat} (h : Many n w0 w P D U) :
    Calls Try.prog 10 #[] w fun e w' => ∃ p, e = .returned (PtD p) ∧ Many (n + 1) w0 w' (updD P n p) (updD D n (one [])) U ∧ Mod [] w w' := by
  refine (pnew_calls w).mono ?_
  rintro e w' ⟨p, T', e1, g1, g2, g3⟩
  obtain ⟨T, h1, h2, h3, h4, h5⟩ := h
  refine ⟨p, e1, ⟨updD T n T', fun i hi => ?_, fun i j hi hj hij => ?_, fun i hi x hx => ?_, fun x hx => Nat.lt_of_lt_of_le (h4 x hx) g2.size, h5.trans g2⟩, g2⟩
  · by_cases e : i = n
    · subst e
      rw [updD_at, updD_at, updD_at]
      exact ⟨g1, h5.trans g2, fun x hx => Nat.le_trans h5.size (g3 x hx)⟩
    · rw [updD_ne _ _ e, updD_ne _ _ e, updD_ne _ _ e]
      exact (h1 i (by omega)).far g2
  · by_cases e : i = n
    · subst e
      rw [updD_at, updD_ne _ _ (Ne.symm hij)]
      intro x hx hxj
      have := g3 x hx
      have := (h1 j (by omega)).r.lt x hxj
      omega
    · rw [updD_ne _ _ e]
      by_cases e2 : j = n
      · subst e2
        rw [updD_at]
        intro x hx hxj
        have := g3 x hxj
        have := (h1 i (by omega)).r.lt x hx
        omega
      · rw [updD_ne _ _ e2]
        exact h2 i j (by omega) (by omega) hij
  · by_cases e : i = n
    · subst e
      rw [updD_at]
      intro ht
      have := g3 x ht
      have := h4 x hx
      omega
    · rw [updD_ne _ _ e]
      exact h3 i (by omega) x hx
theorem many_names {n : Nat} {w0 w : World} {P : Nat → Nat} {D : Nat → Di} {U : List Nat} {i : Nat} (h : Many n w0 w P D U) (hi : i < n) (l : Int) :
    Calls Try.prog 20 #[PtD (P i), .int .i64 l] w fun e w' => ∃ A cap, e = .returned (.slice A (namesW (D i).W l).length cap) ∧ TxAt w' A (namesW (D i).W l) ∧ Many n w0 w' P D U ∧ Mod [] w w' := by
  have h' := h
  obtain ⟨T, h1, _⟩ := h
  refine (pnames_calls (h1 i hi).r l).mono ?_
  rintro e w' ⟨v, rfl, g1, g2⟩
  obtain ⟨A, cap, rfl, g3⟩ := g1.txat
  exact ⟨A, cap, rfl, g3, h'.far g2, g2⟩
theorem many_order {n : Nat} {w0 w : World} {P : Nat → Nat} {D : Nat → Di} {U : List Nat} {i : Nat} (h : Many n w0 w P D U) (hi : i < n) :
    Calls Try.prog 16 #[PtD (P i)] w fun e w' => ∃ A cap, e = .returned (.slice A (D i).O.length cap) ∧ Ir w' w.heap.size (.slice A (D i).O.length cap) (D i).O ∧ IntsAt w' A (D i).O ∧ (A = none → cap = 0) ∧ Many n w0 w' P D U ∧ Mod [] w w' := by
  have h' := h
  obtain ⟨T, h1, _⟩ := h
  refine (porder_calls (h1 i hi).r).mono ?_
  rintro e w' ⟨v, rfl, g1, g2⟩
  obtain ⟨A, cap, rfl, g3, g4, _⟩ := g1.opened
  exact ⟨A, cap, rfl, g1, g3, g4, h'.far g2, g2⟩
end Go.Proofs.Ytldnpppbnakcoaa
