/- Layer 6: StackPairs's walk. Condition: the argument is a slice of cells. -/
import Derived.Test.YtjmbmhjhnoiclaaS6R
namespace Go.Proofs.Ytjmbmhjhnoiclaa
open Go.RowKit
set_option linter.unusedVariables false

theorem size_alloc' (w : World) (o : Obj) : (w.alloc o).heap.size = w.heap.size + 1 := by show (w.heap.push o).size = _; simp
theorem shapeL_more (op : Int) (z : Bool) : (shapeL op z).2.length ≤ (shapeL op z).1 + 2 := by
  have hc : op = 28 ∨ op = 29 ∨ op = 30 ∨ op = 31 ∨ op = 32 ∨ op = 33 ∨ op = 34 ∨ op = 35 ∨ op = 36 ∨ op = 37 ∨ op = 38 ∨ op = 39 ∨ ¬ (28 ≤ op ∧ op ≤ 39) := by omega
  rcases hc with h | h | h | h | h | h | h | h | h | h | h | h | h
  all_goals try (subst h; cases z <;> decide)
  unfold shapeL
  rw [if_neg (by omega)]
  rw [if_neg (by omega)]
  rw [if_neg (by omega)]
  rw [if_neg (by omega)]
  rw [if_neg (by omega)]
  rw [if_neg (by omega)]
  rw [if_neg (by omega)]
  rw [if_neg (by omega)]
  rw [if_neg (by omega)]
  rw [if_neg (by omega)]
  rw [if_neg (by omega)]
  rw [if_neg (by omega)]
  decide
theorem doL_len (op : Int) (L : List Int) : (doL op L).2.length ≤ L.length + 2 := by
  unfold doL
  split
  · rcases chosen_cases L with ⟨e, _⟩ | ⟨A, x, B, rfl, e⟩
    · unfold pickL; rw [e]; simp
    · rw [pickL_some]; simp
  split
  · rcases chosen_cases L with ⟨e, _⟩ | ⟨A, x, B, rfl, e⟩
    · unfold rollL; rw [e]; simp
    · rw [rollL_some]; simp; omega
  split
  · unfold putL; split <;> simp
  split
  · simp
  · have h := shapeL_more op (topZ L)
    unfold replL
    split
    · simp
    split
    · simp
    · simp; omega
theorem putL_below (x : Int) (X Y : List Int) (hx : X.length ≤ 60) (hy : Y.length ≤ 60) : putL [x] (X ++ Y) = (0, X ++ (Y ++ [x])) ∧ putL [x] Y = (0, Y ++ [x]) :=
  ⟨by rw [putL_ok (by simp; omega), List.append_assoc], putL_ok (by simp; omega)⟩
theorem runOps_below (X : List Int) (hx : X.length ≤ 60) : ∀ (ops Y Z : List Int), Y.length + 2 * ops.length ≤ 60 → (∀ op ∈ ops, op ≠ 42) → runOps ops Y = some Z → runOps ops (X ++ Y) = some (X ++ Z) := by
  intro ops
  induction ops with
  | nil => intro Y Z _ _ h; injection h with h; subst h; rfl
  | cons op r ih =>
    intro Y Z hl hn h
    simp only [List.length_cons] at hl
    unfold runOps at h ⊢
    split
    · rename_i ho
      rw [if_pos ho] at h
      have hp := putL_below (-op - 1) X Y hx (by omega)
      rw [hp.1]
      rw [hp.2] at h
      exact ih _ _ (by simp; omega) (fun o ho => hn o (by simp [ho])) h
    · rename_i ho
      rw [if_neg ho] at h
      split at h
      · rename_i h0
        have hb := doL_below op (hn op (by simp)) X Y hx (by omega) (by rw [h0]; decide)
        rw [hb, if_pos h0]
        exact ih _ _ (by have := doL_len op Y; omega) (fun o ho => hn o (by simp [ho])) h
      · cases h
theorem last4 {X : List Int} (h : 4 ≤ X.length) : ∃ R a b c d, X = R ++ [a, b, c, d] ∧ R.length + 4 = X.length := by
  refine ⟨X.take (X.length - 4), X[X.length - 4], X[X.length - 4 + 1], X[X.length - 4 + 2], X[X.length - 4 + 3], ?_, by simp; omega⟩
  have e : X.drop (X.length - 4) = [X[X.length - 4], X[X.length - 4 + 1], X[X.length - 4 + 2], X[X.length - 4 + 3]] := by
    apply List.ext_getElem
    · simp; omega
    · intro i h1 h2
      simp at h2
      have : i = 0 ∨ i = 1 ∨ i = 2 ∨ i = 3 := by omega
      rcases this with rfl | rfl | rfl | rfl <;> simp
  rw [← e, List.take_append_drop]
theorem pair_facts {X : List Int} (h : 4 ≤ X.length) (h2 : X.length ≤ 60) (op : Int) (ops : List Int) (hop : op ≠ 42) (hops : ops.length ≤ 10 ∧ ∀ o ∈ ops, o ≠ 42) (f : Int → Int → Int → Int → List Int)
    (e1 : ∀ a b c d, doL op [a, b, c, d] = (0, f a b c d)) (e2 : ∀ a b c d, runOps ops [a, b, c, d] = some (f a b c d)) : ∃ Z, doL op X = (0, Z) ∧ runOps ops X = some Z := by
  obtain ⟨R, a, b, c, d, rfl, hR⟩ := last4 h
  refine ⟨R ++ f a b c d, ?_, runOps_below R (by omega) ops _ _ (by simp; omega) hops.2 (e2 a b c d)⟩
  have := doL_below op hop R [a, b, c, d] (by omega) (by simp) (by rw [e1]; show (0 : Int) ≠ -4; decide)
  rw [e1] at this
  exact this
theorem pair_36 {X : List Int} (h : 4 ≤ X.length) (h2 : X.length ≤ 60) : ∃ Z, doL 36 X = (0, Z) ∧ runOps [(31 : Int), (31 : Int)] X = some Z :=
  pair_facts h h2 36 [(31 : Int), (31 : Int)] (by decide) (by decide) (fun a b c d => [a, b, c, d, c, d]) (fun a b c d => by kernel_rfl) (fun a b c d => by kernel_rfl)
theorem pair_37 {X : List Int} (h : 4 ≤ X.length) (h2 : X.length ≤ 60) : ∃ Z, doL 37 X = (0, Z) ∧ runOps [(29 : Int), (29 : Int)] X = some Z :=
  pair_facts h h2 37 [(29 : Int), (29 : Int)] (by decide) (by decide) (fun a b c d => [a, b]) (fun a b c d => by kernel_rfl) (fun a b c d => by kernel_rfl)
theorem pair_38 {X : List Int} (h : 4 ≤ X.length) (h2 : X.length ≤ 60) : ∃ Z, doL 38 X = (0, Z) ∧ runOps [(-4 : Int), (41 : Int), (-4 : Int), (41 : Int)] X = some Z :=
  pair_facts h h2 38 [(-4 : Int), (41 : Int), (-4 : Int), (41 : Int)] (by decide) (by decide) (fun a b c d => [c, d, a, b]) (fun a b c d => by kernel_rfl) (fun a b c d => by kernel_rfl)
theorem pair_39 {X : List Int} (h : 4 ≤ X.length) (h2 : X.length ≤ 60) : ∃ Z, doL 39 X = (0, Z) ∧ runOps [(-4 : Int), (40 : Int), (-4 : Int), (40 : Int)] X = some Z :=
  pair_facts h h2 39 [(-4 : Int), (40 : Int), (-4 : Int), (40 : Int)] (by decide) (by decide) (fun a b c d => [a, b, c, d, a, b]) (fun a b c d => by kernel_rfl) (fun a b c d => by kernel_rfl)
theorem pair_33 {X : List Int} (h : 4 ≤ X.length) (h2 : X.length ≤ 60) : ∃ Z, doL 33 X = (0, Z) ∧ runOps [(30 : Int), (29 : Int)] X = some Z :=
  pair_facts h h2 33 [(30 : Int), (29 : Int)] (by decide) (by decide) (fun a b c d => [a, b, d]) (fun a b c d => by kernel_rfl) (fun a b c d => by kernel_rfl)
theorem pair_34 {X : List Int} (h : 4 ≤ X.length) (h2 : X.length ≤ 60) : ∃ Z, doL 34 X = (0, Z) ∧ runOps [(30 : Int), (31 : Int)] X = some Z :=
  pair_facts h h2 34 [(30 : Int), (31 : Int)] (by decide) (by decide) (fun a b c d => [a, b, d, c, d]) (fun a b c d => by kernel_rfl) (fun a b c d => by kernel_rfl)
theorem pair_32 {X : List Int} (h : 4 ≤ X.length) (h2 : X.length ≤ 60) : ∃ Z, doL 32 X = (0, Z) ∧ runOps [(-3 : Int), (41 : Int)] X = some Z :=
  pair_facts h h2 32 [(-3 : Int), (41 : Int)] (by decide) (by decide) (fun a b c d => [a, c, d, b]) (fun a b c d => by kernel_rfl) (fun a b c d => by kernel_rfl)
theorem pair_30 {X : List Int} (h : 4 ≤ X.length) (h2 : X.length ≤ 60) : ∃ Z, doL 30 X = (0, Z) ∧ runOps [(-2 : Int), (41 : Int)] X = some Z :=
  pair_facts h h2 30 [(-2 : Int), (41 : Int)] (by decide) (by decide) (fun a b c d => [a, b, d, c]) (fun a b c d => by kernel_rfl) (fun a b c d => by kernel_rfl)
theorem pair_31 {X : List Int} (h : 4 ≤ X.length) (h2 : X.length ≤ 60) : ∃ Z, doL 31 X = (0, Z) ∧ runOps [(-2 : Int), (40 : Int)] X = some Z :=
  pair_facts h h2 31 [(-2 : Int), (40 : Int)] (by decide) (by decide) (fun a b c d => [a, b, c, d, c]) (fun a b c d => by kernel_rfl) (fun a b c d => by kernel_rfl)
theorem pair_28 {X : List Int} (h : 4 ≤ X.length) (h2 : X.length ≤ 60) : ∃ Z, doL 28 X = (0, Z) ∧ runOps [(-1 : Int), (40 : Int)] X = some Z :=
  pair_facts h h2 28 [(-1 : Int), (40 : Int)] (by decide) (by decide) (fun a b c d => [a, b, c, d, d]) (fun a b c d => by kernel_rfl) (fun a b c d => by kernel_rfl)
/-- What the ten calls leave. -/
structure Kp (w W : World) (bx : Nat) (A : Option Addr) (k cap : Nat) : Prop where
  m : Mod [] w W
  c : W.cell? ⟨bx, 0, none⟩ = some (.slice A k cap)
theorem Kp.far {w W W' : World} {bx : Nat} {A : Option Addr} {k cap : Nat} (h : Kp w W bx A k cap) (m : Mod [] W W') : Kp w W' bx A k cap := ⟨h.m.far m, m.cell (by simp) h.c⟩
theorem Kp.call {w W : World} {bx : Nat} {A : Option Addr} {len k cap : Nat} {X : List Int} (h : Kp w W bx A k cap) (C : Came w A len cap 60 X k) (op : Int) (ops : List Int) (hi : ∀ y ∈ ops, -1000 ≤ y ∧ y ≤ 1000) (hl : ops.length ≤ 10) (hz : ∃ Z, doL op X = (0, Z) ∧ runOps ops X = some Z) (t : TypeId) :
    Calls Try.prog 24 #[.int .i64 op, .slice (some ⟨W.heap.size, 0, none⟩) ops.length ops.length, .pointer (some ⟨bx, 0, none⟩)] (W.alloc (.cells (cellsI ops).toArray t)) fun e w' => e = .returned (.bool true) ∧ Kp w w' bx A k cap := by
  obtain ⟨Z, h1, h2⟩ := hz
  have h' := h.far ((Mod.refl [] W).alloc (.cells (cellsI ops).toArray t))
  exact (same_op h'.m C h'.c (World.block_lt_of_cell? _ _ h'.c) op ops Z (sl_row W ops t) hi hl _ rfl h1 h2).mono fun e w' ⟨he, hm⟩ => ⟨he, h'.far hm⟩
set_option maxHeartbeats 4000000 in
set_option maxRecDepth 100000 in
theorem pairs_walk (w : World) (A : Option Addr) (len cap : Nat) (zs : List Int) (R : Row .i64 w A len cap zs) :
    Calls Try.prog 9 #[.slice A len cap] w fun e w' => e = .returned (.bool true) ∧ Mod [] w w' := by
  obtain ⟨X, k, C⟩ := R.came 60
  have hm1 : (if (60 : Int) < (len : Int) then (60 : Int) else (len : Int)) = (k : Int) := by rw [C.e]; split <;> omega
  have hs1 := C.h
  have hk : k ≤ 60 := by rw [C.e]; exact Nat.min_le_right _ _
  have D := Lib.hid C
  clear C R
  go_enter Try.func9, Try.ntmps9
  go_wp2_with fail
  refine (shown_calls w).mono ?_
  rintro e w1 ⟨rfl, m1⟩
  have M1 := Lib.hid m1
  clear m1
  by_cases h4 : 4 ≤ k
  · have h4' : ¬ (k : Int) < 4 := by omega
    have HX := Lib.hid (show 4 ≤ X.length ∧ X.length ≤ 60 by rw [D.out.n]; exact ⟨h4, hk⟩)
    have KK : Kp w (w1.alloc (.cells #[.slice A k cap] 27)) w1.heap.size A k cap :=
      ⟨M1.out.far ((Mod.refl [] w1).alloc _), by
        have hb : (w1.alloc (.cells #[.slice A k cap] 27)).heap[w1.heap.size]? = some (.cells #[.slice A k cap] 27) := (MapKept.heap_alloc w1 _).1
        simp only [World.cell?, hb]
        rfl⟩
    have K0 := Lib.hid KK
    clear KK
    go_wp2_with fail
    rw [← size_alloc' w1 (.cells #[.slice A k cap] 27)]
    generalize w1.alloc (.cells #[.slice A k cap] 27) = W0 at K0 ⊢
    refine (K0.out.call D.out 36 [(31 : Int), (31 : Int)] (by decide) (by decide) (pair_36 HX.out.1 HX.out.2) _).mono ?_
    rintro e v1 ⟨rfl, h⟩
    have K1 := Lib.hid h
    clear h K0
    go_wp2_with fail
    refine (K1.out.call D.out 37 [(29 : Int), (29 : Int)] (by decide) (by decide) (pair_37 HX.out.1 HX.out.2) _).mono ?_
    rintro e v2 ⟨rfl, h⟩
    have K2 := Lib.hid h
    clear h K1
    go_wp2_with fail
    refine (K2.out.call D.out 38 [(-4 : Int), (41 : Int), (-4 : Int), (41 : Int)] (by decide) (by decide) (pair_38 HX.out.1 HX.out.2) _).mono ?_
    rintro e v3 ⟨rfl, h⟩
    have K3 := Lib.hid h
    clear h K2
    go_wp2_with fail
    refine (K3.out.call D.out 39 [(-4 : Int), (40 : Int), (-4 : Int), (40 : Int)] (by decide) (by decide) (pair_39 HX.out.1 HX.out.2) _).mono ?_
    rintro e v4 ⟨rfl, h⟩
    have K4 := Lib.hid h
    clear h K3
    go_wp2_with fail
    refine (K4.out.call D.out 33 [(30 : Int), (29 : Int)] (by decide) (by decide) (pair_33 HX.out.1 HX.out.2) _).mono ?_
    rintro e v5 ⟨rfl, h⟩
    have K5 := Lib.hid h
    clear h K4
    go_wp2_with fail
    refine (K5.out.call D.out 34 [(30 : Int), (31 : Int)] (by decide) (by decide) (pair_34 HX.out.1 HX.out.2) _).mono ?_
    rintro e v6 ⟨rfl, h⟩
    have K6 := Lib.hid h
    clear h K5
    go_wp2_with fail
    refine (K6.out.call D.out 32 [(-3 : Int), (41 : Int)] (by decide) (by decide) (pair_32 HX.out.1 HX.out.2) _).mono ?_
    rintro e v7 ⟨rfl, h⟩
    have K7 := Lib.hid h
    clear h K6
    go_wp2_with fail
    refine (K7.out.call D.out 30 [(-2 : Int), (41 : Int)] (by decide) (by decide) (pair_30 HX.out.1 HX.out.2) _).mono ?_
    rintro e v8 ⟨rfl, h⟩
    have K8 := Lib.hid h
    clear h K7
    go_wp2_with fail
    refine (K8.out.call D.out 31 [(-2 : Int), (40 : Int)] (by decide) (by decide) (pair_31 HX.out.1 HX.out.2) _).mono ?_
    rintro e v9 ⟨rfl, h⟩
    have K9 := Lib.hid h
    clear h K8
    go_wp2_with fail
    refine (K9.out.call D.out 28 [(-1 : Int), (40 : Int)] (by decide) (by decide) (pair_28 HX.out.1 HX.out.2) _).mono ?_
    rintro e v10 ⟨rfl, h⟩
    have K10 := Lib.hid h
    clear h K9
    go_wp2
    go_ret
    exact ⟨rfl, K10.out.m⟩
  · have h4' : (k : Int) < 4 := by omega
    go_wp2
    go_ret
    exact ⟨rfl, M1.out.far ((Mod.refl [] w1).alloc _)⟩
end Go.Proofs.Ytjmbmhjhnoiclaa
