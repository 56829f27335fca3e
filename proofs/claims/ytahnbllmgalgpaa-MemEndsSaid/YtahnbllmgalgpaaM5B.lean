/- Layer 5 (package mem): size, here, and the part of the bytes that a place and a number tell. Conditions: the block is a memory (Mm). -/
import Derived.Test.YtahnbllmgalgpaaM5A
import Derived.Test.YtahnbllmgalgpaaNum
namespace Go.Proofs.Ytahnbllmgalgpaa
open Go.RowKit
set_option linter.unusedVariables false

abbrev Pt (p : Nat) : Value := .pointer (some ⟨p, 0, none⟩)
def inB (n at_ k : Int) : Bool := decide (0 ≤ at_ ∧ 0 ≤ k ∧ at_ ≤ n - k)
/-- Where a row of k bytes from place o on begins: one of none begins at the head. -/
def pa (o k : Nat) : Nat := if k = 0 then 0 else o
theorem size_calls {w : World} {p q : Nat} {B : List UInt8} {h : Int} (m : Mm w p q B h) :
    Calls Try.prog 26 #[Pt p] w fun e w' => e = .returned (.int .i64 (B.length : Int)) ∧ w = w' := by
  have c0 := m.c0
  go_enter Try.func26, Try.ntmps26
  go_wp2
  go_ret
  exact ⟨rfl, rfl⟩
theorem size_none (w : World) :
    Calls Try.prog 26 #[.pointer none] w fun e w' => e = .returned (.int .i64 0) ∧ w = w' := by
  go_enter Try.func26, Try.ntmps26
  go_wp2
  go_ret
  exact ⟨rfl, rfl⟩
theorem here_calls {w : World} {p q : Nat} {B : List UInt8} {h : Int} (m : Mm w p q B h) :
    Calls Try.prog 16 #[Pt p] w fun e w' => e = .returned (.int .i64 h) ∧ w = w' := by
  have c1 := m.c1
  go_enter Try.func16, Try.ntmps16
  go_wp2
  go_ret
  exact ⟨rfl, rfl⟩
theorem here_none (w : World) :
    Calls Try.prog 16 #[.pointer none] w fun e w' => e = .returned (.int .i64 0) ∧ w = w' := by
  go_enter Try.func16, Try.ntmps16
  go_wp2
  go_ret
  exact ⟨rfl, rfl⟩
theorem part_nil (a n : Int) (w : World) :
    Calls Try.prog 42 #[.pointer none, .int .i64 a, .int .i64 n] w fun e w' => e = .returned (.tuple #[.slice none 0 0, .int .i64 2]) ∧ w = w' := by
  go_enter Try.func42, Try.ntmps42
  go_wp2
  go_ret2
  exact ⟨rfl, rfl⟩
theorem part_no {w : World} {p q : Nat} {B : List UInt8} {h : Int} (m : Mm w p q B h) (a n : Int) (ha : I64 a) (hn : I64 n) (ho : inB B.length a n = false) :
    Calls Try.prog 42 #[Pt p, .int .i64 a, .int .i64 n] w fun e w' => e = .returned (.tuple #[.slice none 0 0, .int .i64 (-9)]) ∧ w = w' := by
  have hs := Lib.hid (size_calls m)
  have hhi := m.hi
  obtain ⟨L, hL⟩ : ∃ L, L = B.length := ⟨_, rfl⟩
  rw [← hL] at hs hhi ho
  unfold I64 at ha hn
  unfold inB at ho
  rw [decide_eq_false_iff_not] at ho
  clear hL m
  by_cases h1 : a < 0
  · clear ho
    go_enter Try.func42, Try.ntmps42
    go_wp2_with fail
    go_ret2
    exact ⟨rfl, rfl⟩
  by_cases h2 : n < 0
  · clear ho
    go_enter Try.func42, Try.ntmps42
    go_wp2_with fail
    go_ret2
    exact ⟨rfl, rfl⟩
  have h3 : (L : Int) - n < a := by omega
  clear ho
  go_enter Try.func42, Try.ntmps42
  go_wp2_with ((with_reducible refine (hs.out).mono ?_); rintro e w' ⟨rfl, rfl⟩)
  go_ret2
  exact ⟨rfl, rfl⟩
theorem part_ok {w : World} {p q : Nat} {B : List UInt8} {h : Int} (m : Mm w p q B h) (o k : Nat) (ho : o + k ≤ B.length) :
    Calls Try.prog 42 #[Pt p, .int .i64 (o : Int), .int .i64 (k : Int)] w fun e w' => e = .returned (.tuple #[.slice (some ⟨q, pa o k, none⟩) k k, .int .i64 0]) ∧ w = w' := by
  have hs := Lib.hid (size_calls m)
  have hhi := m.hi
  have c0 := m.c0
  obtain ⟨L, hL⟩ : ∃ L, L = B.length := ⟨_, rfl⟩
  rw [← hL] at hs hhi ho c0
  clear hL m
  by_cases h0 : k = 0
  · subst h0
    go_enter Try.func42, Try.ntmps42
    go_wp2_with ((with_reducible refine (hs.out).mono ?_); rintro e w' ⟨rfl, rfl⟩)
    go_ret2
    exact ⟨rfl, rfl⟩
  · have hpa : pa o k = o := if_neg h0
    rw [hpa]
    clear hpa
    go_enter Try.func42, Try.ntmps42
    go_wp2_with ((with_reducible refine (hs.out).mono ?_); rintro e w' ⟨rfl, rfl⟩)
    go_ret2
    exact ⟨by show Ending.returned (.tuple #[.slice (some ⟨q, o, none⟩) (o + k - o) (o + k - o), .int .i64 0]) = _; rw [Nat.add_sub_cancel_left], rfl⟩

theorem part_lit {w : World} {p q : Nat} {B : List UInt8} {h : Int} (m : Mm w p q B h) (o k : Nat) (n : Int) (hn : n = (k : Int)) (ho : o + k ≤ B.length) :
    Calls Try.prog 42 #[Pt p, .int .i64 (o : Int), .int .i64 n] w fun e w' => e = .returned (.tuple #[.slice (some ⟨q, pa o k, none⟩) k k, .int .i64 0]) ∧ w = w' := by
  subst hn
  exact part_ok m o k ho
theorem cellat_nil (a : Int) (w : World) :
    Calls Try.prog 43 #[.pointer none, .int .i64 a] w fun e w' => e = .returned (.tuple #[.slice none 0 0, .int .i64 2]) ∧ w = w' := by
  have hp := Lib.hid (part_nil a 8 w)
  go_enter Try.func43, Try.ntmps43
  go_wp2_with ((with_reducible refine (hp.out).mono ?_); rintro e w' ⟨rfl, rfl⟩)
  go_ret2
  exact ⟨rfl, rfl⟩
theorem cellat_no {w : World} {p q : Nat} {B : List UInt8} {h : Int} (m : Mm w p q B h) (a : Int) (ha : I64 a) (ho : inB B.length a 8 = false) :
    Calls Try.prog 43 #[Pt p, .int .i64 a] w fun e w' => e = .returned (.tuple #[.slice none 0 0, .int .i64 (-9)]) ∧ w = w' := by
  have hp := Lib.hid (part_no m a 8 ha (by unfold I64; omega) ho)
  clear m ho ha
  go_enter Try.func43, Try.ntmps43
  go_wp2_with ((with_reducible refine (hp.out).mono ?_); rintro e w' ⟨rfl, rfl⟩)
  go_ret2
  exact ⟨rfl, rfl⟩
theorem cellat_off {w : World} {p q : Nat} {B : List UInt8} {h : Int} (m : Mm w p q B h) (o : Nat) (ho : o + 8 ≤ B.length) (h8 : o % 8 ≠ 0) :
    Calls Try.prog 43 #[Pt p, .int .i64 (o : Int)] w fun e w' => e = .returned (.tuple #[.slice none 0 0, .int .i64 (-23)]) ∧ w = w' := by
  have hp := Lib.hid (part_lit m o 8 8 rfl ho)
  have hhi := m.hi
  have b1 : (o : Int) ≤ 65536 := by omega
  have b2 : ((o : Int) % 8 == 0) = false := by rw [beq_eq_false_iff_ne]; omega
  clear m ho hhi h8
  go_enter Try.func43, Try.ntmps43
  go_wp2_with ((with_reducible refine (hp.out).mono ?_); rintro e w' ⟨rfl, rfl⟩)
  go_ret2
  exact ⟨rfl, rfl⟩
theorem cellat_ok {w : World} {p q : Nat} {B : List UInt8} {h : Int} (m : Mm w p q B h) (o : Nat) (ho : o + 8 ≤ B.length) (h8 : o % 8 = 0) :
    Calls Try.prog 43 #[Pt p, .int .i64 (o : Int)] w fun e w' => e = .returned (.tuple #[.slice (some ⟨q, o, none⟩) 8 8, .int .i64 0]) ∧ w = w' := by
  have hp := Lib.hid (part_lit m o 8 8 rfl ho)
  have hhi := m.hi
  have b1 : (o : Int) ≤ 65536 := by omega
  have b2 : ((o : Int) % 8 == 0) = true := by rw [beq_iff_eq]; omega
  clear m ho hhi h8
  go_enter Try.func43, Try.ntmps43
  go_wp2_with ((with_reducible refine (hp.out).mono ?_); rintro e w' ⟨rfl, rfl⟩)
  go_ret2
  exact ⟨rfl, rfl⟩
end Go.Proofs.Ytahnbllmgalgpaa
