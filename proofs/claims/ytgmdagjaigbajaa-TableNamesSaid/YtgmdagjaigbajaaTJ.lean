/- Layer 12: the document's now, only and All. No condition. -/
import Derived.Test.YtgmdagjaigbajaaTI
namespace Go.Proofs.Ytgmdagjaigbajaa
open Go.RowKit
set_option linter.unusedVariables false

def nowNs : List Int := [3, 4, 5, 6, 8, 10, 12, 15, 19, 21, 23, 24, 25, 26, 27, 28, 34]
def onlyNs : List Int := [3, 4, 5, 8, 10, 12, 15, 23, 34, 44, 45, 46, 47]
set_option maxHeartbeats 4000000 in
theorem rnow_calls (n : Int) (w : World) : Calls Try.prog 20 #[.int .i64 n] w fun e w' => e = .returned (.bool (decide (n ∈ nowNs))) ∧ w' = w := by
  by_cases h : n ∈ nowNs
  · rw [decide_eq_true h]
    simp only [nowNs, List.mem_cons, List.not_mem_nil, or_false] at h
    rcases h with rfl | rfl | rfl | rfl | rfl | rfl | rfl | rfl | rfl | rfl | rfl | rfl | rfl | rfl | rfl | rfl | rfl
    all_goals
      go_enter Try.func20, Try.ntmps20
      go_wp2_with fail
      go_ret
      exact ⟨rfl, rfl⟩
  · rw [decide_eq_false h]
    simp only [nowNs, List.mem_cons, List.not_mem_nil, or_false, not_or] at h
    obtain ⟨h3, h4, h5, h6, h8, h10, h12, h15, h19, h21, h23, h24, h25, h26, h27, h28, h34⟩ := h
    have e3 : (n == 3) = false := by rw [beq_eq_false_iff_ne]; exact h3
    have e4 : (n == 4) = false := by rw [beq_eq_false_iff_ne]; exact h4
    have e5 : (n == 5) = false := by rw [beq_eq_false_iff_ne]; exact h5
    have e6 : (n == 6) = false := by rw [beq_eq_false_iff_ne]; exact h6
    have e8 : (n == 8) = false := by rw [beq_eq_false_iff_ne]; exact h8
    have e10 : (n == 10) = false := by rw [beq_eq_false_iff_ne]; exact h10
    have e12 : (n == 12) = false := by rw [beq_eq_false_iff_ne]; exact h12
    have e15 : (n == 15) = false := by rw [beq_eq_false_iff_ne]; exact h15
    have e19 : (n == 19) = false := by rw [beq_eq_false_iff_ne]; exact h19
    have e21 : (n == 21) = false := by rw [beq_eq_false_iff_ne]; exact h21
    have e23 : (n == 23) = false := by rw [beq_eq_false_iff_ne]; exact h23
    have e24 : (n == 24) = false := by rw [beq_eq_false_iff_ne]; exact h24
    have e25 : (n == 25) = false := by rw [beq_eq_false_iff_ne]; exact h25
    have e26 : (n == 26) = false := by rw [beq_eq_false_iff_ne]; exact h26
    have e27 : (n == 27) = false := by rw [beq_eq_false_iff_ne]; exact h27
    have e28 : (n == 28) = false := by rw [beq_eq_false_iff_ne]; exact h28
    have e34 : (n == 34) = false := by rw [beq_eq_false_iff_ne]; exact h34
    clear h3 h4 h5 h6 h8 h10 h12 h15 h19 h21 h23 h24 h25 h26 h27 h28 h34
    go_enter Try.func20, Try.ntmps20
    go_wp2_with fail
    go_ret
    exact ⟨rfl, rfl⟩
set_option maxHeartbeats 4000000 in
theorem ronly_calls (n : Int) (w : World) : Calls Try.prog 21 #[.int .i64 n] w fun e w' => e = .returned (.bool (decide (n ∈ onlyNs))) ∧ w' = w := by
  by_cases h : n ∈ onlyNs
  · rw [decide_eq_true h]
    simp only [onlyNs, List.mem_cons, List.not_mem_nil, or_false] at h
    rcases h with rfl | rfl | rfl | rfl | rfl | rfl | rfl | rfl | rfl | rfl | rfl | rfl | rfl
    all_goals
      go_enter Try.func21, Try.ntmps21
      go_wp2_with fail
      go_ret
      exact ⟨rfl, rfl⟩
  · rw [decide_eq_false h]
    simp only [onlyNs, List.mem_cons, List.not_mem_nil, or_false, not_or] at h
    obtain ⟨h3, h4, h5, h8, h10, h12, h15, h23, h34, h44, h45, h46, h47⟩ := h
    have e3 : (n == 3) = false := by rw [beq_eq_false_iff_ne]; exact h3
    have e4 : (n == 4) = false := by rw [beq_eq_false_iff_ne]; exact h4
    have e5 : (n == 5) = false := by rw [beq_eq_false_iff_ne]; exact h5
    have e8 : (n == 8) = false := by rw [beq_eq_false_iff_ne]; exact h8
    have e10 : (n == 10) = false := by rw [beq_eq_false_iff_ne]; exact h10
    have e12 : (n == 12) = false := by rw [beq_eq_false_iff_ne]; exact h12
    have e15 : (n == 15) = false := by rw [beq_eq_false_iff_ne]; exact h15
    have e23 : (n == 23) = false := by rw [beq_eq_false_iff_ne]; exact h23
    have e34 : (n == 34) = false := by rw [beq_eq_false_iff_ne]; exact h34
    have e44 : (n == 44) = false := by rw [beq_eq_false_iff_ne]; exact h44
    have e45 : (n == 45) = false := by rw [beq_eq_false_iff_ne]; exact h45
    have e46 : (n == 46) = false := by rw [beq_eq_false_iff_ne]; exact h46
    have e47 : (n == 47) = false := by rw [beq_eq_false_iff_ne]; exact h47
    clear h3 h4 h5 h8 h10 h12 h15 h23 h34 h44 h45 h46 h47
    go_enter Try.func21, Try.ntmps21
    go_wp2_with fail
    go_ret
    exact ⟨rfl, rfl⟩
/-- What the document says of a word of a kind, by its place. -/
def rNow (k : Int) (j : Nat) : Bool := if k = 3 then true else if k = 4 then decide (((j : Int) + 1) ∈ nowNs) else false
def rOnly (k : Int) (j : Nat) : Bool := if k = 3 then true else if k = 2 then decide ((j : Int) < 6) else if k = 4 then decide (((j : Int) + 1) ∈ onlyNs) else false
theorem ent_ctl : ∀ j : Fin 9, decide ((namesK 2)[j.val]'(by have := j.isLt; have e : (namesK 2).length = 9 := (by decide); omega) ∈ ctlON) = decide ((j.val : Int) < 6) := by decide +kernel
theorem ent_flow : ∀ j : Fin 17, decide ((namesK 3)[j.val]'(by have := j.isLt; have e : (namesK 3).length = 17 := (by decide); omega) ∈ flowN) = true := by decide +kernel
theorem ent_hostW : ∀ j : Fin 47, decide ((namesK 4)[j.val]'(by have := j.isLt; have e : (namesK 4).length = 47 := (by decide); omega) ∈ hostWN) = decide (((j.val : Int) + 1) ∈ nowNs) := by decide +kernel
theorem ent_hostO : ∀ j : Fin 47, decide ((namesK 4)[j.val]'(by have := j.isLt; have e : (namesK 4).length = 47 := (by decide); omega) ∈ hostON) = decide (((j.val : Int) + 1) ∈ onlyNs) := by decide +kernel
theorem ent_is {k : Int} (hk : 1 ≤ k ∧ k ≤ 4) (j : Nat) (h : j < (namesK k).length) : entK k j (namesK k)[j] = ⟨(namesK k)[j], k, j + 1, rNow k j, rOnly k j⟩ := by
  rcases (by omega : k = 1 ∨ k = 2 ∨ k = 3 ∨ k = 4) with rfl | rfl | rfl | rfl
  · simp [entK, nowK, onlyK, rNow, rOnly]
  · have := ent_ctl ⟨j, h⟩
    simp only [entK, En.mk.injEq, true_and]
    exact ⟨by simp [nowK, rNow], by simpa [onlyK, rOnly] using this⟩
  · have := ent_flow ⟨j, h⟩
    simp only [entK, En.mk.injEq, true_and]
    exact ⟨by simpa [nowK, rNow] using this, by simpa [onlyK, rOnly] using this⟩
  · have h1 := ent_hostW ⟨j, h⟩
    have h2 := ent_hostO ⟨j, h⟩
    simp only [entK, En.mk.injEq, true_and]
    exact ⟨by simpa [nowK, rNow] using h1, by simpa [onlyK, rOnly] using h2⟩
end Go.Proofs.Ytgmdagjaigbajaa
