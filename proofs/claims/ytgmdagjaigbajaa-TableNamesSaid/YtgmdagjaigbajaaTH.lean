/- Layer 12: Name of package table; the document's names, now, only and Name. Condition: numbers fit 64 bits. -/
import Derived.Test.YtgmdagjaigbajaaTG
namespace Go.Proofs.Ytgmdagjaigbajaa
open Go.RowKit
set_option linter.unusedVariables false

theorem nameT_low {k n : Int} (h : n < 1) : nameT k n = [] := by unfold nameT; rw [if_pos (Or.inl h)]
theorem nameT_far {k n : Int} (h : (namesK k).length < n) : nameT k n = [] := by unfold nameT; rw [if_pos (Or.inr h)]
theorem nameT_get {k n : Int} {j : Nat} (h : n = (j : Int) + 1) (hj : j < (namesK k).length) : nameT k n = (namesK k)[j] := by
  unfold nameT
  rw [if_neg (by omega), show (n - 1).toNat = j by omega]
  simp [List.getD, List.getElem?_eq_getElem hj]
@[go_sem ↓] theorem run_field_all (k : Int) (A B C : Option Addr) (n m l c d e : Nat) (W : World) : (Instr.field 41 (.agg #[.int .i64 k, .slice A n c, .slice B m d, .slice C l e]) 1).run Try.prog W = .ok (.slice A n c) W := by kernel_rfl
set_option maxHeartbeats 4000000 in
theorem name_calls (k n : Int) (hn : I64 n) (w : World) : Calls Try.prog 12 #[.int .i64 k, .int .i64 n] w fun e w' => e = .returned (.string (str (nameT k n))) ∧ Mod [] w w' := by
  have G1 := Lib.hid (group_calls w k)
  have hnl := names_len k
  unfold I64 at hn
  by_cases h1 : n < 1
  · rw [nameT_low h1]
    have d1 : decide (n < 1) = true := decide_eq_true h1
    go_enter Try.func12, Try.ntmps12
    go_wp2_with fail
    refine (G1.out).mono ?_
    rintro e w1 ⟨g, rfl, hg, m1⟩
    obtain ⟨A1, c1, A2, c2, A3, c3, rfl, t1, _⟩ := hg
    have M1 := Lib.hid m1
    obtain ⟨n1, hn1⟩ : ∃ n, n = (namesK k).length := ⟨_, rfl⟩
    rw [← hn1] at hnl ⊢
    clear m1 hn1 t1
    go_wp2_with fail
    go_ret
    exact ⟨rfl, M1.out⟩
  · by_cases h2 : ((namesK k).length : Int) < n
    · rw [nameT_far h2]
      have d1 : decide (n < 1) = false := decide_eq_false h1
      go_enter Try.func12, Try.ntmps12
      go_wp2_with fail
      refine (G1.out).mono ?_
      rintro e w1 ⟨g, rfl, hg, m1⟩
      obtain ⟨A1, c1, A2, c2, A3, c3, rfl, t1, _⟩ := hg
      have M1 := Lib.hid m1
      obtain ⟨n1, hn1⟩ : ∃ n, n = (namesK k).length := ⟨_, rfl⟩
      rw [← hn1] at hnl h2 ⊢
      have d2 : decide ((n1 : Int) < n) = true := decide_eq_true h2
      clear m1 hn1 t1
      go_wp2_with fail
      go_ret
      exact ⟨rfl, M1.out⟩
    · obtain ⟨j, hj⟩ : ∃ j : Nat, n = (j : Int) + 1 := ⟨(n - 1).toNat, by omega⟩
      have hjl : j < (namesK k).length := by omega
      rw [nameT_get hj hjl]
      have hs : wrap64 (n - 1) = (j : Int) := by rw [IntWalk.wrap64_in _ (by omega)]; omega
      have HS := Lib.hid (show ∃ S, S = str (namesK k)[j] from ⟨_, rfl⟩)
      have ej : j = n.toNat - 1 := by omega
      obtain ⟨S, hS⟩ := HS.out
      rw [← hS]
      have HSS := Lib.hid hS
      have EJ := Lib.hid ej
      clear hS HS hj ej
      go_enter Try.func12, Try.ntmps12
      go_wp2_with fail
      refine (G1.out).mono ?_
      rintro e w1 ⟨g, rfl, hg, m1⟩
      obtain ⟨A1, c1, A2, c2, A3, c3, rfl, t1, _⟩ := hg
      have M1 := Lib.hid m1
      obtain ⟨b, o, rfl, hc⟩ := tx_get t1 j hjl
      rw [← HSS.out, EJ.out] at hc
      obtain ⟨n1, hn1⟩ : ∃ n, n = (namesK k).length := ⟨_, rfl⟩
      rw [← hn1] at hnl h2 ⊢
      have hjI : (j : Int) < (n1 : Int) := by omega
      have d1 : decide (n < 1) = false := decide_eq_false (by omega)
      have d2 : decide ((n1 : Int) < n) = false := decide_eq_false (by omega)
      clear m1 hn1 t1
      go_wp2_with fail
      go_ret
      exact ⟨rfl, M1.out⟩
end Go.Proofs.Ytgmdagjaigbajaa
