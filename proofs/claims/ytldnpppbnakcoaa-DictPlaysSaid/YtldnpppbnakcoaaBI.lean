/- Layer 9: the program's Back. Condition: the block is such a dictionary (Pd9). -/
import Derived.Test.YtldnpppbnakcoaaBH
namespace Go.Proofs.Ytldnpppbnakcoaa
open Go.RowKit
set_option linter.unusedVariables false

theorem mayBack_is {D : Di} {a b : Int} (h : D.mayBack a b = true) : 0 ≤ a ∧ 1 ≤ b ∧ a ≤ (D.W.length : Int) ∧ b ≤ (D.k : Int) := by
  unfold Di.mayBack at h
  rw [Bool.and_eq_true] at h
  exact of_decide_eq_true h.1
set_option maxHeartbeats 2000000 in
theorem pback_calls {w : World} {p : Nat} {T : List Nat} {D : Di} (h : Pd9 w p T D) (a b : Int) :
    Calls Try.prog 25 #[PtD p, .agg #[.int .i64 a, .int .i64 b]] w (PPlays p T (.int .i64 (backR D a b).1) (backR D a b).2 w) := by
  unfold PPlays
  obtain ⟨r, hr⟩ : ∃ r, r = backR D a b := ⟨_, rfl⟩
  rw [← hr]
  have m1 : Mod [] w (w.alloc (.cells #[.int .i64 a, .int .i64 b] 31)) := (Mod.refl [] w).alloc _
  obtain ⟨c0, c1⟩ := mark_new w a b
  have h1 := h.far m1
  have K0 := Lib.hid (none_calls h1)
  have K1 := Lib.hid (reaches_calls h1 a b)
  cases hm : D.mayBack a b with
  | false =>
    have hr9 : r = (1, D) := by rw [hr]; unfold backR; rw [hm]; rfl
    subst hr9
    rw [hm] at K1
    have HH := Lib.hid (And.intro h1 m1)
    clear hr hm h h1 m1
    go_enter Try.func25, Try.ntmps25
    go_wp2_with fail
    generalize w.alloc (.cells #[.int .i64 a, .int .i64 b] 31) = w1 at K0 K1 c0 c1 HH ⊢
    refine (K0.out).mono ?_
    rintro e u1 ⟨rfl, rfl⟩
    go_wp2_with fail
    refine (K1.out).mono ?_
    rintro e u1 ⟨rfl, hx⟩
    have HX := Lib.hid hx
    clear hx
    go_wp2_with fail
    go_ret
    exact ⟨rfl, T, (HH.out.1.far HX.out), TurnD.of ((HH.out.2.trans HX.out).up (by simp))⟩
  | true =>
    obtain ⟨ha0, hb1, haW, hbk⟩ := mayBack_is hm
    obtain ⟨x, rfl⟩ : ∃ x : Nat, a = (x : Int) := ⟨a.toNat, by omega⟩
    obtain ⟨k, rfl⟩ : ∃ k : Nat, b = (k : Int) := ⟨b.toNat, by omega⟩
    have hk8 : k ≤ 8 := by
      obtain ⟨_, _, _, _, hv, _⟩ := h
      have := hv.dk
      omega
    have hr9 : r = (0, ⟨D.W.take x, k, D.O.filter (inK (k : Int)), if inK (k : Int) D.c = true then D.c else 1⟩) := by
      rw [hr]
      unfold backR
      rw [hm]
      rfl
    obtain ⟨DD, hDD⟩ : ∃ DD : Di, DD = ⟨D.W.take x, k, D.O.filter (inK (k : Int)), if inK (k : Int) D.c = true then D.c else 1⟩ := ⟨_, rfl⟩
    rw [← hDD] at hr9
    have HDD := Lib.hid hDD
    clear hDD
    subst hr9
    rw [hm] at K1
    have hT := h.lt
    have HH := Lib.hid (And.intro h1 (And.intro m1 (And.intro hT (And.intro (show x ≤ D.W.length by omega) (And.intro (show 1 ≤ k by omega) hk8)))))
    clear hr hm h h1 m1 ha0 hb1 haW hbk hT
    go_enter Try.func25, Try.ntmps25
    go_wp2_with fail
    obtain ⟨B, hB⟩ : ∃ B, B = w.heap.size := ⟨_, rfl⟩
    rw [← hB] at c0 c1 ⊢
    have HB := Lib.hid hB
    clear hB
    generalize w.alloc (.cells #[.int .i64 (x : Int), .int .i64 (k : Int)] 31) = w1 at K0 K1 c0 c1 HH ⊢
    refine (K0.out).mono ?_
    rintro e u1 ⟨rfl, rfl⟩
    go_wp2_with fail
    refine (K1.out).mono ?_
    rintro e u1 ⟨rfl, hx⟩
    have h2 := HH.out.1.far hx
    have K2 := Lib.hid (cutW_calls h2 x HH.out.2.2.2.1)
    have g0 := hx.cell (by simp) c0
    have g1 := hx.cell (by simp) c1
    have HX := Lib.hid hx
    clear hx c0 c1 K0 K1 h2
    go_wp2_with fail
    refine (K2.out).mono ?_
    rintro e u2 ⟨⟨v2, rfl⟩, T2, h3, ht⟩
    have hBT : B ∉ T := fun e => by have := HH.out.2.2.1 B e; have := HB.out; omega
    have j0 := ht.1.cell (x := ⟨B, 0, none⟩) hBT g0
    have j1 := ht.1.cell (x := ⟨B, 1, none⟩) hBT g1
    have K3 := Lib.hid (cutL_calls h3 k HH.out.2.2.2.2.1 HH.out.2.2.2.2.2)
    have HT := Lib.hid ht
    clear ht h3 K2 g0 g1 hBT
    go_wp2_with fail
    refine (K3.out).mono ?_
    rintro e u3 ⟨⟨v3, rfl⟩, T3, h4, ht⟩
    have HE := Lib.hid (And.intro h4 ht)
    clear h4 ht
    go_wp2_with fail
    go_ret
    exact ⟨rfl, T3, by rw [HDD.out]; exact HE.out.1, (TurnD.of ((HH.out.2.1.trans HX.out).up (by simp))).trans (HT.out.trans HE.out.2)⟩
end Go.Proofs.Ytldnpppbnakcoaa
