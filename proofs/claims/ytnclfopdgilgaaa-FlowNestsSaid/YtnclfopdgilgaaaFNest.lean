/- Layer 11: parts one within the other (FlowNests' walk). Condition: the row of small numbers came in. -/
import Derived.Test.YtnclfopdgilgaaaFMayB
namespace Go.Proofs.Ytnclfopdgilgaaa
open Go.RowKit
set_option linter.unusedVariables false

def bgN : List (List Int) := [[1], [4], [4, 5], [9], [10], [1, 2]]
def edN : List Int := [3, 8, 6, 12, 11, 3]
def lyN : List Int := [1, 1, 2, 2, 2, 2]
def grN (y : Nat) : List Nat := [[1], [2], [1, 2], [3], [3], [1]].getD y []
def clN (y : Nat) : Nat := [0, 1, 1, 1, 1, 0].getD y 0
def y6 (x : Int) : Nat := (x % 6).toNat
def doN (l : List Int) (B : Bd) : Bd := l.foldl (fun B n => (doB n B).2) B
theorem doN_snoc (l : List Int) (n : Int) (B : Bd) : doN (l ++ [n]) B = (doB n (doN l B)).2 := by simp [doN]
theorem inv_doN (l : List Int) {B : Bd} (h : Inv B) : Inv (doN l B) := by
  induction l using snocRec with
  | nil => exact h
  | snoc C q ih => rw [doN_snoc]; exact ih.does q
/-- The answers of a row of parts are all 0. -/
def Fine (l : List Int) (B : Bd) : Prop := ∀ j n, l[j]? = some n → (doB n (doN (l.take j) B)).1 = 0
theorem fine_one {n : Int} {B : Bd} (h : (doB n B).1 = 0) : Fine [n] B := fun j m hm => by
  have hj : j = 0 := by have := (List.getElem?_eq_some_iff.1 hm).1; simp at this; omega
  subst hj
  obtain rfl := Option.some.inj hm
  exact h
theorem fine_two {n m : Int} {B : Bd} (h : (doB n B).1 = 0) (h2 : (doB m (doB n B).2).1 = 0) : Fine [n, m] B := fun j x hx => by
  have hj : j = 0 ∨ j = 1 := by have := (List.getElem?_eq_some_iff.1 hx).1; simp at this; omega
  rcases hj with rfl | rfl
  · obtain rfl := Option.some.inj hx; exact h
  · obtain rfl := Option.some.inj hx; exact h2
theorem nest_open {B : Bd} {y : Nat} {Q : List Int} {la : Int} (hQ : bgN[y]? = some Q) (hla : lyN[y]? = some la) (hL : B.L.length < 490) (hP : B.P.length < 31) : Fine Q B ∧ (doN Q B).P.map Pk.k = B.P.map Pk.k ++ grN y ∧ ((doN Q B).L.length : Int) + clN y = (B.L.length : Int) + la := by
  have hy : y < 6 := by have := (List.getElem?_eq_some_iff.1 hQ).1; simpa [bgN] using this
  have hc : y = 0 ∨ y = 1 ∨ y = 2 ∨ y = 3 ∨ y = 4 ∨ y = 5 := by omega
  have op : ∀ (n : Int) (la a : Nat) (B : Bd), B.L.length < 495 → B.P.length < 32 → rowI n = some ⟨[], 0, la, true, a⟩ → doB n B = (0, actB a (if la = 0 then B else layB ⟨la, 0, 0⟩ B)) := fun n la a B hL hP hr => by
    rw [do_fine n _ hr (by unfold fitsB; simp [ends_nil]) (by unfold roomB; simp [hP]; omega)]
  rcases hc with rfl | rfl | rfl | rfl | rfl | rfl
  all_goals obtain rfl := Option.some.inj hQ
  all_goals obtain rfl := Option.some.inj hla
  · have h1 := op 1 4 0 B (by omega) (by omega) rfl
    refine ⟨fine_one (by rw [h1]), ?_⟩
    show (doB 1 B).2.P.map Pk.k = _ ∧ ((doB 1 B).2.L.length : Int) + _ = _
    rw [h1]
    simp [actB, gapB, openB, layB, grN, clN]
  · have h1 := op 4 0 3 B (by omega) (by omega) rfl
    refine ⟨fine_one (by rw [h1]), ?_⟩
    show (doB 4 B).2.P.map Pk.k = _ ∧ ((doB 4 B).2.L.length : Int) + _ = _
    rw [h1]
    simp [actB, openB, grN, clN]
  · have h1 : doB 4 B = (0, ⟨B.L, B.P ++ [⟨2, B.L.length, []⟩]⟩) := op 4 0 3 B (by omega) (by omega) rfl
    have h2 : doB 5 ⟨B.L, B.P ++ [⟨2, B.L.length, []⟩]⟩ = (0, belowB ⟨B.L ++ [⟨4, 0, 0⟩], B.P ++ [⟨2, B.L.length, []⟩]⟩) := by
      rw [do_fine 5 ⟨[2], 0, 4, true, 4⟩ rfl (by unfold fitsB; rw [ends_snoc _ (⟨2, B.L.length, []⟩ : Pk)]; simp) (by unfold roomB; simp; omega)]
      rfl
    refine ⟨fine_two (by rw [h1]) (by rw [h1, h2]), ?_⟩
    show (doB 5 (doB 4 B).2).2.P.map Pk.k = _ ∧ ((doB 5 (doB 4 B).2).2.L.length : Int) + _ = _
    rw [h1, h2, below_snoc]
    simp [grN, clN]
    omega
  · have h1 := op 9 5 7 B (by omega) (by omega) rfl
    refine ⟨fine_one (by rw [h1]), ?_⟩
    show (doB 9 B).2.P.map Pk.k = _ ∧ ((doB 9 B).2.L.length : Int) + _ = _
    rw [h1]
    simp [actB, openB, layB, grN, clN]
    omega
  · have h1 := op 10 6 8 B (by omega) (by omega) rfl
    refine ⟨fine_one (by rw [h1]), ?_⟩
    show (doB 10 B).2.P.map Pk.k = _ ∧ ((doB 10 B).2.L.length : Int) + _ = _
    rw [h1]
    simp [actB, openB, layB, grN, clN]
    omega
  · have h1 : doB 1 B = (0, ⟨B.L ++ [⟨4, 0, 0⟩], B.P ++ [⟨1, B.L.length + 1, [B.L.length]⟩]⟩) := by
      rw [op 1 4 0 B (by omega) (by omega) rfl]
      simp [actB, gapB, openB, layB]
    have h2 : doB 2 ⟨B.L ++ [⟨4, 0, 0⟩], B.P ++ [⟨1, B.L.length + 1, [B.L.length]⟩]⟩ = (0, gapB (closeB ⟨B.L ++ [⟨4, 0, 0⟩] ++ [⟨3, 0, 0⟩], B.P ++ [⟨1, B.L.length + 1, [B.L.length]⟩]⟩)) := by
      rw [do_fine 2 ⟨[1], 0, 3, false, 1⟩ rfl (by unfold fitsB; rw [ends_snoc _ (⟨1, B.L.length + 1, [B.L.length]⟩ : Pk)]; simp) (by unfold roomB; simp; omega)]
      rfl
    refine ⟨fine_two (by rw [h1]) (by rw [h1, h2]), ?_⟩
    show (doB 2 (doB 1 B).2).2.P.map Pk.k = _ ∧ ((doB 2 (doB 1 B).2).2.L.length : Int) + _ = _
    rw [h1, h2, close_snoc]
    simp [gapB, openB, closeL_len, grN, clN]
theorem nest_close {B : Bd} {y : Nat} {n : Int} (hn : edN[y]? = some n) {ks : List Nat} (hP : B.P.map Pk.k = ks ++ grN y) (hL : B.L.length < 490) : (doB n B).1 = 0 ∧ (doB n B).2.P.map Pk.k = ks ∧ (doB n B).2.L.length = B.L.length + clN y := by
  have hy : y < 6 := by have := (List.getElem?_eq_some_iff.1 hn).1; simpa [edN] using this
  have hc : y = 0 ∨ y = 1 ∨ y = 2 ∨ y = 3 ∨ y = 4 ∨ y = 5 := by omega
  obtain ⟨L, P⟩ := B
  simp only at hP hL
  have one : ∀ k, P.map Pk.k = ks ++ [k] → ∃ C q, P = C ++ [q] ∧ q.k = k ∧ C.map Pk.k = ks := fun k h => by
    rcases List.eq_nil_or_concat P with rfl | ⟨C, q, rfl⟩
    · simp at h
    · rw [List.concat_eq_append, List.map_append] at h
      obtain ⟨h1, h2⟩ := List.append_inj' h rfl
      exact ⟨C, q, by simp, by simpa using h2, h1⟩
  have cl : ∀ (n : Int) (k la a : Nat), rowI n = some ⟨[k], 0, la, false, a⟩ → (∀ B, (actB a B).P = B.P.dropLast ∧ (actB a B).L.length = B.L.length) → P.map Pk.k = ks ++ [k] → (doB n ⟨L, P⟩).1 = 0 ∧ (doB n ⟨L, P⟩).2.P.map Pk.k = ks ∧ (doB n ⟨L, P⟩).2.L.length = L.length + (if la = 0 then 0 else 1) := fun n k la a hr ha hP => by
    obtain ⟨C, q, rfl, hq, hC⟩ := one k hP
    rw [do_fine n _ hr (by unfold fitsB; rw [← hq]; simp [ends_snoc]) (by unfold roomB; simp; omega)]
    refine ⟨rfl, ?_⟩
    simp only
    rw [(ha _).1, (ha _).2]
    split
    · simp [hC]
    · simp [layB, hC]
  have b6 : ∀ B, (actB 6 B).P = B.P.dropLast ∧ (actB 6 B).L.length = B.L.length := fun B => ⟨rfl, by simp only [act_len]⟩
  have b2 : ∀ B, (actB 2 B).P = B.P.dropLast ∧ (actB 2 B).L.length = B.L.length := fun B => ⟨rfl, by simp only [act_len]⟩
  rcases hc with rfl | rfl | rfl | rfl | rfl | rfl
  all_goals obtain rfl := Option.some.inj hn
  · exact cl 3 1 0 2 rfl b2 hP
  · exact cl 8 2 3 6 rfl b6 hP
  · have hP2 : P.map Pk.k = (ks ++ [1]) ++ [2] := by rw [hP]; simp [grN]
    rcases List.eq_nil_or_concat P with rfl | ⟨C, q, rfl⟩
    · simp at hP2
    rw [List.concat_eq_append, List.map_append] at hP2
    obtain ⟨h1, h2⟩ := List.append_inj' hP2 rfl
    rcases List.eq_nil_or_concat C with rfl | ⟨D, p, rfl⟩
    · simp at h1
    rw [List.concat_eq_append, List.map_append] at h1
    obtain ⟨h3, h4⟩ := List.append_inj' h1 rfl
    have hq : q.k = 2 := by simpa using h2
    have hp : p.k = 1 := by simpa using h4
    simp only [List.concat_eq_append, List.append_assoc, List.cons_append, List.nil_append]
    have he : endsB [1, 2] (D ++ [p, q]) = true := by have := ends_pair D p q; rwa [hp, hq] at this
    rw [do_fine 6 ⟨[1, 2], 0, 3, false, 5⟩ rfl (by unfold fitsB; simp [he]) (by unfold roomB; simp; omega)]
    refine ⟨rfl, ?_, ?_⟩
    · show (closeB (backB ⟨L ++ [⟨3, 0, 0⟩], D ++ [p, q]⟩)).P.map Pk.k = ks
      rw [gone_snoc]; exact h3
    · simp only [act_len]; simp [layB, clN]
  · exact cl 12 3 8 6 rfl b6 hP
  · exact cl 11 3 7 6 rfl b6 hP
  · exact cl 3 1 0 2 rfl b2 hP
/-- The sums. -/
def wtN (k : Nat) (l : List Int) : Int := l.foldl (fun s x => s + (lyN.getD (y6 x) 0 + k)) 0
def csN (l : List Int) : Nat := (l.map fun x => clN (y6 x)).sum
theorem wtN_snoc (k : Nat) (l : List Int) (x : Int) : wtN k (l ++ [x]) = wtN k l + (lyN.getD (y6 x) 0 + k) := by simp [wtN]
theorem csN_snoc (l : List Int) (x : Int) : csN (l ++ [x]) = csN l + clN (y6 x) := by simp [csN]
theorem ly_b (y : Nat) : 0 ≤ lyN.getD y 0 ∧ lyN.getD y 0 ≤ 2 := by
  by_cases h : y < 6
  · have hc : y = 0 ∨ y = 1 ∨ y = 2 ∨ y = 3 ∨ y = 4 ∨ y = 5 := by omega
    rcases hc with rfl | rfl | rfl | rfl | rfl | rfl <;> decide
  · rw [List.getD_eq_getElem?_getD, List.getElem?_eq_none (by simp [lyN]; omega)]; simp
theorem wtN_b (k : Nat) (hk : k ≤ 3) (l : List Int) : 0 ≤ wtN k l ∧ wtN k l ≤ 5 * l.length := by
  induction l using snocRec with
  | nil => simp [wtN]
  | snoc C q ih =>
    rw [wtN_snoc]
    have := ly_b (y6 q)
    rw [List.length_append, List.length_singleton]
    omega
theorem new_cell (w : World) (cs : Array Value) (t : TypeId) {i : Nat} {v : Value} (h : cs[i]? = some v) : (w.alloc (.cells cs t)).cell? ⟨w.heap.size, i, none⟩ = some v := by
  rw [World.cell?_alloc_new]
  simpa using h
/-- The cells of the literals, by their blocks. -/
def nestK (rs : List Nat) (R6 R7 R8 : Nat) : Addr → Value → Prop := fun a v => (∃ (y : Nat) (Q : List Int) (r : Nat), bgN[y]? = some Q ∧ rs[y]? = some r ∧ (litI r Q a v ∨ (a = ⟨R6, y, none⟩ ∧ v = .slice (some ⟨r, 0, none⟩) Q.length Q.length))) ∨ litI R7 edN a v ∨ litI R8 lyN a v
theorem six {α : Type} {x : α} {l : List α} {i : Nat} (hl : l.length = 6) (h : l[i]? = some x) : i = 0 ∨ i = 1 ∨ i = 2 ∨ i = 3 ∨ i = 4 ∨ i = 5 := by have := (List.getElem?_eq_some_iff.1 h).1; omega
theorem nest_lits (w : World) : ∃ W R1 R2 R3 R4 R5 R6 R7 R8, R1 = w.heap.size + 1 ∧ R2 = R1 + 1 ∧ R3 = R2 + 1 ∧ R4 = R3 + 1 ∧ R5 = R4 + 1 ∧ R6 = R5 + 1 ∧ R7 = R6 + 1 ∧ R8 = R7 + 1 ∧ W = (((((((((w.alloc (.cells #[.int .i64 1] 3)).alloc (.cells #[.int .i64 4] 3)).alloc (.cells #[.int .i64 4, .int .i64 5] 3)).alloc (.cells #[.int .i64 9] 3)).alloc (.cells #[.int .i64 10] 3)).alloc (.cells #[.int .i64 1, .int .i64 2] 3)).alloc (.cells #[.slice (some ⟨w.heap.size, 0, none⟩) 1 1, .slice (some ⟨R1, 0, none⟩) 1 1, .slice (some ⟨R2, 0, none⟩) 2 2, .slice (some ⟨R3, 0, none⟩) 1 1, .slice (some ⟨R4, 0, none⟩) 1 1, .slice (some ⟨R5, 0, none⟩) 2 2] 46)).alloc (.cells #[.int .i64 3, .int .i64 8, .int .i64 6, .int .i64 12, .int .i64 11, .int .i64 3] 3)).alloc (.cells #[.int .i64 1, .int .i64 1, .int .i64 2, .int .i64 2, .int .i64 2, .int .i64 2] 3)) ∧ Mod [] w W ∧ ∀ a v, nestK [w.heap.size, R1, R2, R3, R4, R5] R6 R7 R8 a v → w.heap.size ≤ a.block ∧ W.cell? a = some v := by
  obtain ⟨v1, h1⟩ : ∃ v1, v1 = w.alloc (.cells #[.int .i64 1] 3) := ⟨_, rfl⟩
  have s1 : v1.heap.size = w.heap.size + 1 := by rw [h1, size_allocI]
  have k1 : ∀ j x, (#[.int .i64 1] : Array Value)[j]? = some x → v1.cell? ⟨w.heap.size, j, none⟩ = some x := fun j x h => by rw [h1]; exact new_cell _ _ _ h
  have n1 : Mod [] w v1 := by rw [h1]; exact (Mod.refl [] _).alloc _
  obtain ⟨R1, hR1⟩ : ∃ R1, R1 = w.heap.size + 1 := ⟨_, rfl⟩
  obtain ⟨v2, h2⟩ : ∃ v2, v2 = v1.alloc (.cells #[.int .i64 4] 3) := ⟨_, rfl⟩
  have e1 : v1.heap.size = R1 := by rw [s1, hR1]
  have s2 : v2.heap.size = R1 + 1 := by rw [h2, size_allocI, e1]
  have k2 : ∀ j x, (#[.int .i64 4] : Array Value)[j]? = some x → v2.cell? ⟨R1, j, none⟩ = some x := fun j x h => by rw [h2, ← e1]; exact new_cell _ _ _ h
  have n2 : Mod [] v1 v2 := by rw [h2]; exact (Mod.refl [] _).alloc _
  obtain ⟨R2, hR2⟩ : ∃ R2, R2 = R1 + 1 := ⟨_, rfl⟩
  obtain ⟨v3, h3⟩ : ∃ v3, v3 = v2.alloc (.cells #[.int .i64 4, .int .i64 5] 3) := ⟨_, rfl⟩
  have e2 : v2.heap.size = R2 := by rw [s2, hR2]
  have s3 : v3.heap.size = R2 + 1 := by rw [h3, size_allocI, e2]
  have k3 : ∀ j x, (#[.int .i64 4, .int .i64 5] : Array Value)[j]? = some x → v3.cell? ⟨R2, j, none⟩ = some x := fun j x h => by rw [h3, ← e2]; exact new_cell _ _ _ h
  have n3 : Mod [] v2 v3 := by rw [h3]; exact (Mod.refl [] _).alloc _
  obtain ⟨R3, hR3⟩ : ∃ R3, R3 = R2 + 1 := ⟨_, rfl⟩
  obtain ⟨v4, h4⟩ : ∃ v4, v4 = v3.alloc (.cells #[.int .i64 9] 3) := ⟨_, rfl⟩
  have e3 : v3.heap.size = R3 := by rw [s3, hR3]
  have s4 : v4.heap.size = R3 + 1 := by rw [h4, size_allocI, e3]
  have k4 : ∀ j x, (#[.int .i64 9] : Array Value)[j]? = some x → v4.cell? ⟨R3, j, none⟩ = some x := fun j x h => by rw [h4, ← e3]; exact new_cell _ _ _ h
  have n4 : Mod [] v3 v4 := by rw [h4]; exact (Mod.refl [] _).alloc _
  obtain ⟨R4, hR4⟩ : ∃ R4, R4 = R3 + 1 := ⟨_, rfl⟩
  obtain ⟨v5, h5⟩ : ∃ v5, v5 = v4.alloc (.cells #[.int .i64 10] 3) := ⟨_, rfl⟩
  have e4 : v4.heap.size = R4 := by rw [s4, hR4]
  have s5 : v5.heap.size = R4 + 1 := by rw [h5, size_allocI, e4]
  have k5 : ∀ j x, (#[.int .i64 10] : Array Value)[j]? = some x → v5.cell? ⟨R4, j, none⟩ = some x := fun j x h => by rw [h5, ← e4]; exact new_cell _ _ _ h
  have n5 : Mod [] v4 v5 := by rw [h5]; exact (Mod.refl [] _).alloc _
  obtain ⟨R5, hR5⟩ : ∃ R5, R5 = R4 + 1 := ⟨_, rfl⟩
  obtain ⟨v6, h6⟩ : ∃ v6, v6 = v5.alloc (.cells #[.int .i64 1, .int .i64 2] 3) := ⟨_, rfl⟩
  have e5 : v5.heap.size = R5 := by rw [s5, hR5]
  have s6 : v6.heap.size = R5 + 1 := by rw [h6, size_allocI, e5]
  have k6 : ∀ j x, (#[.int .i64 1, .int .i64 2] : Array Value)[j]? = some x → v6.cell? ⟨R5, j, none⟩ = some x := fun j x h => by rw [h6, ← e5]; exact new_cell _ _ _ h
  have n6 : Mod [] v5 v6 := by rw [h6]; exact (Mod.refl [] _).alloc _
  obtain ⟨R6, hR6⟩ : ∃ R6, R6 = R5 + 1 := ⟨_, rfl⟩
  obtain ⟨v7, h7⟩ : ∃ v7, v7 = v6.alloc (.cells #[.slice (some ⟨w.heap.size, 0, none⟩) 1 1, .slice (some ⟨R1, 0, none⟩) 1 1, .slice (some ⟨R2, 0, none⟩) 2 2, .slice (some ⟨R3, 0, none⟩) 1 1, .slice (some ⟨R4, 0, none⟩) 1 1, .slice (some ⟨R5, 0, none⟩) 2 2] 46) := ⟨_, rfl⟩
  have e6 : v6.heap.size = R6 := by rw [s6, hR6]
  have s7 : v7.heap.size = R6 + 1 := by rw [h7, size_allocI, e6]
  have k7 : ∀ j x, (#[.slice (some ⟨w.heap.size, 0, none⟩) 1 1, .slice (some ⟨R1, 0, none⟩) 1 1, .slice (some ⟨R2, 0, none⟩) 2 2, .slice (some ⟨R3, 0, none⟩) 1 1, .slice (some ⟨R4, 0, none⟩) 1 1, .slice (some ⟨R5, 0, none⟩) 2 2] : Array Value)[j]? = some x → v7.cell? ⟨R6, j, none⟩ = some x := fun j x h => by rw [h7, ← e6]; exact new_cell _ _ _ h
  have n7 : Mod [] v6 v7 := by rw [h7]; exact (Mod.refl [] _).alloc _
  obtain ⟨R7, hR7⟩ : ∃ R7, R7 = R6 + 1 := ⟨_, rfl⟩
  obtain ⟨v8, h8⟩ : ∃ v8, v8 = v7.alloc (.cells #[.int .i64 3, .int .i64 8, .int .i64 6, .int .i64 12, .int .i64 11, .int .i64 3] 3) := ⟨_, rfl⟩
  have e7 : v7.heap.size = R7 := by rw [s7, hR7]
  have s8 : v8.heap.size = R7 + 1 := by rw [h8, size_allocI, e7]
  have k8 : ∀ j x, (#[.int .i64 3, .int .i64 8, .int .i64 6, .int .i64 12, .int .i64 11, .int .i64 3] : Array Value)[j]? = some x → v8.cell? ⟨R7, j, none⟩ = some x := fun j x h => by rw [h8, ← e7]; exact new_cell _ _ _ h
  have n8 : Mod [] v7 v8 := by rw [h8]; exact (Mod.refl [] _).alloc _
  obtain ⟨R8, hR8⟩ : ∃ R8, R8 = R7 + 1 := ⟨_, rfl⟩
  obtain ⟨v9, h9⟩ : ∃ v9, v9 = v8.alloc (.cells #[.int .i64 1, .int .i64 1, .int .i64 2, .int .i64 2, .int .i64 2, .int .i64 2] 3) := ⟨_, rfl⟩
  have e8 : v8.heap.size = R8 := by rw [s8, hR8]
  have s9 : v9.heap.size = R8 + 1 := by rw [h9, size_allocI, e8]
  have k9 : ∀ j x, (#[.int .i64 1, .int .i64 1, .int .i64 2, .int .i64 2, .int .i64 2, .int .i64 2] : Array Value)[j]? = some x → v9.cell? ⟨R8, j, none⟩ = some x := fun j x h => by rw [h9, ← e8]; exact new_cell _ _ _ h
  have n9 : Mod [] v8 v9 := by rw [h9]; exact (Mod.refl [] _).alloc _
  have m9 := Mod.refl [] v9
  have m8 := n9.trans m9
  have m7 := n8.trans m8
  have m6 := n7.trans m7
  have m5 := n6.trans m6
  have m4 := n5.trans m5
  have m3 := n4.trans m4
  have m2 := n3.trans m3
  have m1 := n2.trans m2
  have m0 := n1.trans m1
  refine ⟨v9, R1, R2, R3, R4, R5, R6, R7, R8, hR1, hR2, hR3, hR4, hR5, hR6, hR7, hR8, by rw [h9, h8, h7, h6, h5, h4, h3, h2, h1], m0, fun a v hK => ?_⟩
  rcases hK with ⟨y, Q, r, hQ, hr, hK⟩ | ⟨i, x, hx, rfl, rfl⟩ | ⟨i, x, hx, rfl, rfl⟩
  · rcases six rfl hQ with rfl | rfl | rfl | rfl | rfl | rfl
    all_goals
      obtain rfl := Option.some.inj hQ
      obtain rfl := Option.some.inj hr
      rcases hK with ⟨i, x, hx, rfl, rfl⟩ | ⟨rfl, rfl⟩
    · obtain rfl : i = 0 := by have := (List.getElem?_eq_some_iff.1 hx).1; simp at this; omega
      obtain rfl := Option.some.inj hx
      exact ⟨by simp only; omega, m1.cell (by simp) (k1 0 _ rfl)⟩
    · exact ⟨by simp only; omega, m7.cell (by simp) (k7 0 _ rfl)⟩
    · obtain rfl : i = 0 := by have := (List.getElem?_eq_some_iff.1 hx).1; simp at this; omega
      obtain rfl := Option.some.inj hx
      exact ⟨by simp only; omega, m2.cell (by simp) (k2 0 _ rfl)⟩
    · exact ⟨by simp only; omega, m7.cell (by simp) (k7 1 _ rfl)⟩
    · have hi : i = 0 ∨ i = 1 := by have := (List.getElem?_eq_some_iff.1 hx).1; simp at this; omega
      rcases hi with rfl | rfl
      all_goals
        obtain rfl := Option.some.inj hx
        exact ⟨by simp only; omega, m3.cell (by simp) (k3 _ _ rfl)⟩
    · exact ⟨by simp only; omega, m7.cell (by simp) (k7 2 _ rfl)⟩
    · obtain rfl : i = 0 := by have := (List.getElem?_eq_some_iff.1 hx).1; simp at this; omega
      obtain rfl := Option.some.inj hx
      exact ⟨by simp only; omega, m4.cell (by simp) (k4 0 _ rfl)⟩
    · exact ⟨by simp only; omega, m7.cell (by simp) (k7 3 _ rfl)⟩
    · obtain rfl : i = 0 := by have := (List.getElem?_eq_some_iff.1 hx).1; simp at this; omega
      obtain rfl := Option.some.inj hx
      exact ⟨by simp only; omega, m5.cell (by simp) (k5 0 _ rfl)⟩
    · exact ⟨by simp only; omega, m7.cell (by simp) (k7 4 _ rfl)⟩
    · have hi : i = 0 ∨ i = 1 := by have := (List.getElem?_eq_some_iff.1 hx).1; simp at this; omega
      rcases hi with rfl | rfl
      all_goals
        obtain rfl := Option.some.inj hx
        exact ⟨by simp only; omega, m6.cell (by simp) (k6 _ _ rfl)⟩
    · exact ⟨by simp only; omega, m7.cell (by simp) (k7 5 _ rfl)⟩
  · rcases six rfl hx with rfl | rfl | rfl | rfl | rfl | rfl
    all_goals
      obtain rfl := Option.some.inj hx
      exact ⟨by simp only; omega, m8.cell (by simp) (k8 _ _ rfl)⟩
  · rcases six rfl hx with rfl | rfl | rfl | rfl | rfl | rfl
    all_goals
      obtain rfl := Option.some.inj hx
      exact ⟨by simp only; omega, m9.cell (by simp) (k9 _ _ rfl)⟩
theorem gr_len (l : List Int) : (l.flatMap fun x => grN (y6 x)).length ≤ 2 * l.length := by
  induction l with
  | nil => simp
  | cons x r ih =>
    rw [List.flatMap_cons, List.length_append, List.length_cons]
    have : (grN (y6 x)).length ≤ 2 := by
      by_cases h : y6 x < 6
      · have hc : y6 x = 0 ∨ y6 x = 1 ∨ y6 x = 2 ∨ y6 x = 3 ∨ y6 x = 4 ∨ y6 x = 5 := by omega
        rcases hc with e | e | e | e | e | e <;> rw [e] <;> decide
      · unfold grN
        rw [List.getD_eq_getElem?_getD, List.getElem?_eq_none (by simp; omega)]; simp
    omega
theorem put_drop {B : Bd} (h : B.L.length < 499) : (putB (⟨11, 0, 0⟩ : Xi) B).2 = layB ⟨11, 0, 0⟩ B := by unfold putB; rw [if_pos h]
theorem y6_at {x : Int} {y : Nat} (h : x % 6 = (y : Int)) : y6 x = y := by unfold y6; rw [h]; rfl
set_option maxHeartbeats 8000000 in
set_option maxRecDepth 100000 in
theorem nest_walk (w : World) (a : Option Addr) (len cap : Nat) (z : List Int) (hR : RowIn .u8 w a len cap z) (many : Int) (wmany : (Lit.int .u8 many).wf = true) :
    Calls Try.prog 8 #[.slice a len cap, .int .u8 many] w fun e w' => e = .returned (.bool true) ∧ Mod [] w w' := by
  have hmany := (show 0 ≤ many ∧ many ≤ 255 by simpa [Lit.wf, IntKind.min, IntKind.max, IntKind.signed, IntKind.bits] using wmany)
  obtain ⟨k, hk⟩ := Int.eq_ofNat_of_zero_le (show 0 ≤ many % 4 by omega)
  have hk2 : many.tmod 4 = (k : Int) := by rw [Int.tmod_eq_emod_of_nonneg (by omega)]; exact hk
  have hkb : (k : Int) < 4 := by omega
  have hkw : IntKind.u8.wrap (k : Int) = (k : Int) := by rw [IntKind.wrap_u8]; omega
  have hkw2 : IntKind.i64.wrap (k : Int) = (k : Int) := by rw [IntKind.wrap_i64]; omega
  obtain ⟨q, hq⟩ : ∃ q, q = min len 15 := ⟨_, rfl⟩
  obtain ⟨l, hl, hnum⟩ := hR.nums q (by omega)
  have hc := hR.le
  have hlenI : (len : Int) ≤ 9223372036854775807 := by omega
  have HU := Lib.hid (And.intro hq (And.intro hc fun W => upto_in W 48 5 Try.underlying48 size_u8 a len cap q (by omega)))
  have HN := Lib.hid (And.intro hl (And.intro hnum (show q ≤ 15 by omega)))
  have H1 := Lib.hid (shown_calls w)
  clear hR hl hnum hc hq wmany
  go_enter Try.func8, Try.ntmps8
  go_wp2_with fail
  refine (H1.out).mono ?_
  rintro e w1 ⟨rfl, hm1⟩
  have H2 := Lib.hid (mb_new hm1)
  clear hm1 H1
  go_wp2_with fail
  refine (H2.out).mono ?_
  rintro e w2 ⟨b, rfl, hb⟩
  have HB := Lib.hid hb
  clear hb H2
  go_upto_region 8 with fail
  obtain ⟨W, R1, R2, R3, R4, R5, R6, R7, R8, h1, h2, h3, h4, h5, h6, h7, h8, hW, hmW, hKW⟩ := nest_lits w2
  rw [← h1, ← h2, ← h3, ← h4, ← h5, ← h6, ← h7, ← h8, ← hW]
  obtain ⟨KK, hKK⟩ : ∃ KK, KK = nestK [w2.heap.size, R1, R2, R3, R4, R5] R6 R7 R8 := ⟨_, rfl⟩
  rw [← hKK] at hKW
  obtain ⟨rs, hrs⟩ : ∃ rs, rs = [w2.heap.size, R1, R2, R3, R4, R5] := ⟨_, rfl⟩
  rw [← hrs] at hKK
  have hrl : rs.length = 6 := by rw [hrs]; rfl
  have HK := Lib.hid (And.intro hKK hrl)
  have h0 := Lib.hid (HB.out.keep hmW hKW)
  clear h1 h2 h3 h4 h5 h6 h7 h8 hW hmW hKW hKK hrs hrl HB
  go_cut [10] (fun u wx => u = .slice a q cap ∧ wx = W)
  case first =>
    have hu := HU.out.2.2 W
    have h1 := HU.out.1
    by_cases h6 : len ≤ 15
    · obtain rfl : q = len := by omega
      have h6I : (q : Int) ≤ 15 := by omega
      clear h1 h6
      go_wp2_with fail
      go_meet
      case rel => exact ⟨rfl, rfl⟩
    · obtain rfl : q = 15 := by omega
      have h6I : ¬ (len : Int) ≤ 15 := by omega
      have hu : (Instr.sliceAt 48 (.slice a len cap) none (some (.int .i64 15)) none).run Try.prog W = .ok (.slice a 15 cap) W := hu
      clear h1 h6
      go_wp2_with fail
      go_meet
      case rel => exact ⟨rfl, rfl⟩
  case rest =>
  obtain ⟨rfl, rfl⟩ := hcut
  clear HU
  have hqI : (q : Int) ≤ 15 := by have := HN.out.2.2; omega
  go_wp2_with fail
  clear hk hk2 hkw hkw2 hmany
  go_loopg [12, 43] q (fun g wv z wr => ∃ (i : Nat) (wt : Int), wv = .int .i64 wt ∧ z = .int .i64 (i : Int) ∧ i + g = q ∧ RowKit.Hid (∃ B, Mk w wr b B KK ∧ Inv B ∧ B.P.map Pk.k = (l.take i).flatMap (fun x => grN (y6 x)) ∧ (B.L.length : Int) + csN (l.take i) = wt ∧ wt = wtN k (l.take i)))
  case atStart => exact ⟨0, 0, rfl, rfl, by omega, Lib.hid ⟨_, h0.out, inv_new, by simp, by simp [csN], by simp [wtN]⟩⟩
  case round =>
    clear h0
    obtain ⟨i, wt, rfl, rfl, hig, hi⟩ := hrel
    obtain ⟨B, hB, hI, hBk, hBl, hwt⟩ := hi.out
    clear hi
    have hwb := wtN_b k (by omega) (l.take i)
    rw [← hwt, List.length_take] at hwb
    have hwb : 0 ≤ wt ∧ wt ≤ 75 := by have := HN.out.1; have := HN.out.2.2; omega
    have hBP : B.P.length ≤ 2 * i := by
      have h1 := congrArg List.length hBk
      have h2 := gr_len (l.take i)
      rw [← h1, List.length_map, List.length_take] at h2
      omega
    by_cases hlt : i < q
    · have hltI : (i : Int) < (q : Int) := by omega
      obtain ⟨x, hx⟩ : ∃ x, l[i]? = some x := ⟨_, List.getElem?_eq_getElem (by have := HN.out.1; omega)⟩
      obtain ⟨hil, hx'⟩ := List.getElem?_eq_some_iff.1 hx
      obtain ⟨ax, hax, hcx⟩ := HN.out.2.1.1 i hil
      rw [hx'] at hcx
      have HCX := Lib.hid hcx
      have hcx := hB.b.m.cell (by simp) hcx
      have hxb := (show 0 ≤ x ∧ x ≤ 255 by simpa [Lit.wf, IntKind.min, IntKind.max, IntKind.signed, IntKind.bits] using HN.out.2.1.2 x (List.mem_of_getElem? hx))
      subst hax
      obtain ⟨y, hy⟩ := Int.eq_ofNat_of_zero_le (show 0 ≤ x % 6 by omega)
      have hy2 : x.tmod 6 = (y : Int) := by rw [Int.tmod_eq_emod_of_nonneg (by omega)]; exact hy
      have hyb : (y : Int) < 6 := by omega
      have hw1 : IntKind.u8.wrap (y : Int) = (y : Int) := by rw [IntKind.wrap_u8]; omega
      obtain ⟨Q, hQ⟩ : ∃ Q, bgN[y]? = some Q := ⟨_, List.getElem?_eq_getElem (by simp [bgN]; omega)⟩
      obtain ⟨r, hr⟩ : ∃ r, rs[y]? = some r := ⟨_, List.getElem?_eq_getElem (by have := HK.out.2; omega)⟩
      obtain ⟨la, hla⟩ : ∃ la, lyN[y]? = some la := ⟨_, List.getElem?_eq_getElem (by simp [lyN]; omega)⟩
      obtain ⟨mq, hmq⟩ : ∃ mq, mq = Q.length := ⟨_, rfl⟩
      have hco := hB.cell (a := ⟨R6, y, none⟩) (v := .slice (some ⟨r, 0, none⟩) mq mq) (by rw [HK.out.1]; exact Or.inl ⟨y, Q, r, hQ, hr, Or.inr ⟨rfl, by rw [hmq]⟩⟩)
      have hmqb : mq ≤ 2 := by rw [hmq]; rcases six rfl hQ with rfl | rfl | rfl | rfl | rfl | rfl <;> obtain rfl := Option.some.inj hQ <;> decide
      have hmqI : (mq : Int) ≤ 2 := by omega
      obtain ⟨hf, hnp, hnl⟩ := nest_open (B := B) hQ hla (by omega) (by have := HN.out.2.2; omega)
      have hlag : lyN.getD y 0 = la := by rw [List.getD_eq_getElem?_getD, hla]; rfl
      have hlab : 0 ≤ la ∧ la ≤ 2 := by rw [← hlag]; exact ly_b y
      have HF := Lib.hid (And.intro (And.intro hQ (And.intro hr (And.intro hla hlag))) (And.intro hf (And.intro (And.intro hnp hnl) (And.intro (inv_doN Q hI) (And.intro (And.intro hBk (And.intro hBl hwt)) (And.intro hig (And.intro hmq (And.intro hx hy2))))))))
      have HBB := Lib.hid (And.intro hB hwb)
      obtain ⟨gO, hgO⟩ : ∃ gO, gO = gk := ⟨_, rfl⟩
      have HGO := Lib.hid hgO
      clear hgO hB hI hBk hBl hwt hwb hBP hQ hr hla hlag hmq hmqb hf hnp hnl hig hx hx' hil hlt
      go_wp2_with fail
      clear hco hcx
      go_loopg [53] mq (fun g z wx => ∃ j : Nat, z = .int .i64 (j : Int) ∧ j + g = mq ∧ RowKit.Hid (Mk w wx b (doN (Q.take j) B) KK))
      case atStart => exact ⟨0, rfl, by omega, Lib.hid HBB.out.1⟩
      case round =>
        obtain ⟨j, rfl, hjg, hj⟩ := hrel
        by_cases hlt : j < mq
        · have hltI : (j : Int) < (mq : Int) := by omega
          obtain ⟨n0, hn0⟩ : ∃ n0, Q[j]? = some n0 := ⟨_, List.getElem?_eq_getElem (by have := HF.out.2.2.2.2.2.2.1; omega)⟩
          have hcn := hj.out.cell (a := ⟨r, j, none⟩) (v := .int .i64 n0) (by rw [HK.out.1]; exact Or.inl ⟨y, Q, r, HF.out.1.1, HF.out.1.2.1, Or.inl (litI.at hn0)⟩)
          have kk := mk_do hj.out n0
          rw [HF.out.2.1 j n0 hn0] at kk
          have K1 := Lib.hid kk
          have HJ := Lib.hid (And.intro hjg hn0)
          clear kk hj hjg hn0 hlt
          go_wp2_with fail
          refine (K1.out).mono ?_
          rintro e w3 ⟨rfl, hb3⟩
          have HB3 := Lib.hid hb3
          clear hb3 K1 hcn
          go_wp2_with fail
          go_roundg (gk - 1)
          case measure => have := HJ.out.1; omega
          case rel =>
            refine ⟨j + 1, by go_num, by have := HJ.out.1; omega, Lib.hid ?_⟩
            obtain ⟨hjl, hjx⟩ := List.getElem?_eq_some_iff.1 HJ.out.2
            rw [List.take_succ_eq_append_getElem hjl, hjx, doN_snoc]
            exact HB3.out
        · have hltI : ¬ (j : Int) < (mq : Int) := by omega
          obtain rfl : j = mq := by omega
          have h0 := hj.out
          rw [List.take_of_length_le (by have := HF.out.2.2.2.2.2.2.1; omega)] at h0
          have h0 := Lib.hid h0
          have HL2 := Lib.hid (show (doN Q B).L.length ≤ 80 by have := HF.out.2.2.1.2; have := HF.out.2.2.2.2.1.2.1; have := HBB.out.2; omega)
          clear hj hjg hlt
          go_wp2_with fail
          go_loopg [63] k (fun g z wx => ∃ t : Nat, z = .int .i64 (t : Int) ∧ t + g = k ∧ RowKit.Hid (∃ B3, Mk w wx b B3 KK ∧ Inv B3 ∧ B3.P = (doN Q B).P ∧ B3.L.length = (doN Q B).L.length + t))
          case atStart => exact ⟨0, rfl, by omega, Lib.hid ⟨_, h0.out, HF.out.2.2.2.1, rfl, rfl⟩⟩
          case round =>
            clear h0
            obtain ⟨t, rfl, htg, ht⟩ := hrel
            obtain ⟨B3, hB3, hI3, hP3, hL3⟩ := ht.out
            clear ht
            by_cases hlt : t < k
            · have hltI : (t : Int) < (k : Int) := by omega
              have hdr := put_drop (B := B3) (by have := HL2.out; omega)
              have kk := mk_put hB3 ⟨11, 0, 0⟩ (well_op 11 (by decide))
              have ki := hI3.put (x := ⟨11, 0, 0⟩) (opw 11 (Or.inr (Or.inr (Or.inl rfl)))) (Or.inr rfl)
              rw [hdr] at kk ki
              have K1 := Lib.hid kk
              have HT := Lib.hid (And.intro htg (And.intro ki (And.intro hP3 hL3)))
              clear kk ki hdr hB3 hI3 hP3 hL3 htg hlt
              go_wp2_with fail
              refine (K1.out).mono ?_
              rintro e w4 ⟨rfl, hb4⟩
              have HB4 := Lib.hid hb4
              clear hb4 K1
              go_wp2_with fail
              go_roundg (gk - 1)
              case measure => have := HT.out.1; omega
              case rel => exact ⟨t + 1, by go_num, by have := HT.out.1; omega, Lib.hid ⟨_, HB4.out, HT.out.2.1, HT.out.2.2.1, by simp [layB, HT.out.2.2.2]; omega⟩⟩
            · have hltI : ¬ (t : Int) < (k : Int) := by omega
              obtain rfl : t = k := by omega
              have hcl := hB3.cell (a := ⟨R8, y, none⟩) (v := .int .i64 la) (by rw [HK.out.1]; exact Or.inr (Or.inr (litI.at HF.out.1.2.2.1)))
              have hwb := HBB.out.2
              have HT := Lib.hid (And.intro hB3 (And.intro hI3 (And.intro hP3 hL3)))
              clear hB3 hI3 hP3 hL3 htg hlt
              go_wp2_with fail
              go_roundg (gO - 1)
              case measure => have := HF.out.2.2.2.2.2.1; have := HGO.out; omega
              case rel =>
                have hxq := HF.out.2.2.2.2.2.2.2.1
                obtain ⟨hxl, hxe⟩ := List.getElem?_eq_some_iff.1 hxq
                have e1 : l.take (i + 1) = l.take i ++ [x] := by rw [List.take_succ_eq_append_getElem hxl, hxe]
                have ey : y6 x = y := y6_at hy
                have h1 := HF.out.2.2.1
                have h2 := HF.out.2.2.2.2.1
                have h3 := HT.out.2.2.2
                refine ⟨i + 1, wt + (la + (t : Int)), by go_num, by go_num, by have := HF.out.2.2.2.2.2.1; have := HGO.out; omega, Lib.hid ⟨_, HT.out.1, HT.out.2.1, ?_, ?_, ?_⟩⟩
                · rw [HT.out.2.2.1, h1.1, h2.1, e1, List.flatMap_append]
                  simp [ey]
                · rw [e1, csN_snoc, ey, h3]
                  have := h1.2
                  have := h2.2.1
                  omega
                · rw [e1, wtN_snoc, ey, HF.out.1.2.2.2, ← h2.2.2]
    · have hltI : ¬ (i : Int) < (q : Int) := by omega
      obtain rfl : i = q := by omega
      have hil := HN.out.1
      have h0 := Lib.hid (show ∃ B, Mk w wr b B KK ∧ Inv B ∧ B.P.map Pk.k = (l.take i).flatMap (fun x => grN (y6 x)) ∧ (B.L.length : Int) + csN (l.take i) = wt from ⟨B, hB, hI, hBk, hBl⟩)
      clear hB hI hBk hBl hwt hBP hig hlt hil
      go_wp2_with fail
      go_loopg [17] i (fun g z wr => ∃ y : Int, z = .int .i64 y ∧ y + 1 = (g : Int) ∧ RowKit.Hid (g ≤ i) ∧ RowKit.Hid (∃ B, Mk w wr b B KK ∧ Inv B ∧ B.P.map Pk.k = (l.take g).flatMap (fun x => grN (y6 x)) ∧ (B.L.length : Int) + csN (l.take g) = wt))
      case atStart => exact ⟨(i : Int) - 1, by first | rfl | go_num, by omega, Lib.hid (Nat.le_refl _), h0⟩
      case round =>
        clear h0
        obtain ⟨y0, rfl, hyg, hgi, hr⟩ := hrel
        obtain ⟨B, hB, hI, hBk, hBl⟩ := hr.out
        clear hr
        by_cases h0 : 0 ≤ y0
        · obtain ⟨j, rfl⟩ := Int.eq_ofNat_of_zero_le h0
          have hgj : gk = j + 1 := by omega
          rw [hgj] at hBk hBl
          have hji : j < i := by have := hgi.out; omega
          have hjI : (j : Int) < (i : Int) := by omega
          have hjI2 : (j : Int) ≤ 15 := by omega
          obtain ⟨x, hx⟩ : ∃ x, l[j]? = some x := ⟨_, List.getElem?_eq_getElem (by have := HN.out.1; omega)⟩
          obtain ⟨hil, hx'⟩ := List.getElem?_eq_some_iff.1 hx
          obtain ⟨ax, hax, hcx⟩ := HN.out.2.1.1 j hil
          rw [hx'] at hcx
          have hcx := hB.b.m.cell (by simp) hcx
          have hxb := (show 0 ≤ x ∧ x ≤ 255 by simpa [Lit.wf, IntKind.min, IntKind.max, IntKind.signed, IntKind.bits] using HN.out.2.1.2 x (List.mem_of_getElem? hx))
          subst hax
          obtain ⟨y, hy⟩ := Int.eq_ofNat_of_zero_le (show 0 ≤ x % 6 by omega)
          have hy2 : x.tmod 6 = (y : Int) := by rw [Int.tmod_eq_emod_of_nonneg (by omega)]; exact hy
          have hyb : (y : Int) < 6 := by omega
          have hw1 : IntKind.u8.wrap (y : Int) = (y : Int) := by rw [IntKind.wrap_u8]; omega
          obtain ⟨n0, hn0⟩ : ∃ n0, edN[y]? = some n0 := ⟨_, List.getElem?_eq_getElem (by simp [edN]; omega)⟩
          have hce := hB.cell (a := ⟨R7, y, none⟩) (v := .int .i64 n0) (by rw [HK.out.1]; exact Or.inr (Or.inl (litI.at hn0)))
          rw [List.take_succ_eq_append_getElem hil, hx'] at hBk hBl
          rw [List.flatMap_append] at hBk
          rw [csN_snoc] at hBl
          have ey : y6 x = y := y6_at hy
          rw [ey] at hBl
          obtain ⟨hz1, hz2, hz3⟩ := nest_close (B := B) hn0 (ks := (l.take j).flatMap (fun x => grN (y6 x))) (by rw [hBk]; simp [ey]) (by omega)
          have kk := mk_do hB n0
          rw [hz1] at kk
          have K1 := Lib.hid kk
          have HZ := Lib.hid (And.intro hz2 (And.intro (show ((doB n0 B).2.L.length : Int) + csN (l.take j) = wt by rw [hz3]; omega) (And.intro (hI.does n0) hgj)))
          clear kk hz1 hz2 hz3 hB hI hBk hBl hyg hgi hgj h0 hx hx' hil hji hn0 ey
          go_wp2_with fail
          refine (K1.out).mono ?_
          rintro e w3 ⟨rfl, hb3⟩
          have HB3 := Lib.hid hb3
          clear hb3 K1 hce hcx
          go_wp2_with fail
          go_roundg (gk - 1)
          case measure => have := HZ.out.2.2.2; omega
          case rel =>
            have h9 : gk - 1 = j := by have := HZ.out.2.2.2; omega
            rw [h9]
            exact ⟨(j : Int) - 1, by first | rfl | go_num, by omega, Lib.hid (by omega), Lib.hid ⟨_, HB3.out, HZ.out.2.2.1, HZ.out.1, HZ.out.2.1⟩⟩
        · obtain rfl : y0 = -1 := by omega
          obtain rfl : gk = 0 := by omega
          obtain ⟨L, P⟩ := B
          obtain rfl : P = [] := by simpa using hBk
          have hBl : (L.length : Int) = wt := by simpa [csN] using hBl
          have K1 := Lib.hid (mb_open hB.b 0 rfl)
          have K2 := Lib.hid (mb_len hB.b wt hBl)
          have HE := Lib.hid (mb_end hB.b)
          have HL := Lib.hid (And.intro hBl (may_of (by omega) hI))
          clear hB hI hBk hBl hyg hgi h0
          go_wp2_with fail
          refine (K1.out).mono ?_
          rintro e w3 ⟨rfl, rfl⟩
          clear K1
          go_wp2_with fail
          refine (K2.out).mono ?_
          rintro e w4 ⟨rfl, rfl⟩
          clear K2
          go_wp2_with fail
          refine (HE.out).mono ?_
          rintro e w5 ⟨A, cp, rfl, hme⟩
          obtain ⟨nn, hnn⟩ : ∃ nn, nn = (L ++ [(⟨15, 0, 0⟩ : Xi)]).length := ⟨_, rfl⟩
          rw [← hnn]
          have mA := (Mod.refl [] w5).alloc (.cells #[.slice A nn cp] 41)
          have hdc : (w5.alloc (.cells #[.slice A nn cp] 41)).cell? ⟨w5.heap.size, 0, none⟩ = some (.slice A nn cp) := by rw [World.cell?_alloc_new]; rfl
          have H8 := Lib.hid (rmay_calls (cap := cp) (hme.ins.far mA) hnn (by have h := HL.out.1; rw [hnn, List.length_append, List.length_singleton]; omega) 0)
          have HM := Lib.hid (hme.m.trans mA)
          have hnb : ((nn : Int) == wt + 1) = true := by have h := HL.out.1; rw [beq_iff_eq, hnn, List.length_append, List.length_singleton]; omega
          clear hme mA hnn HE
          go_wp2_with fail
          refine (H8.out).mono ?_
          intro e w8 kk
          obtain ⟨rfl, hm8⟩ := may_tells HL.out.2 kk
          have HM8 := Lib.hid (HM.out.trans hm8)
          clear hm8 kk H8 hdc
          go_wp2_with fail
          go_ret
          exact ⟨by simp, HM8.out⟩
end Go.Proofs.Ytnclfopdgilgaaa
