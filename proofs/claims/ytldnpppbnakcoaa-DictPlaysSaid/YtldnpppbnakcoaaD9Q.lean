/- Layer 9: the program's none, lacks, lastOf, SetCurrent, Current, List, Mark. Condition: the block is such a dictionary (Pd9). -/
import Derived.Test.YtldnpppbnakcoaaD9P
namespace Go.Proofs.Ytldnpppbnakcoaa
open Go.RowKit
set_option linter.unusedVariables false

theorem none_calls {w : World} {p : Nat} {T : List Nat} {D : Di} (h : Pd9 w p T D) : Calls Try.prog 38 #[PtD p] w fun e w' => e = .returned (.bool false) ∧ w = w' := by
  obtain ⟨v, b, u, Z, h, _⟩ := h
  have h1 := h.c2
  have hk := h.dk1
  have hkb : ((D.k : Int) == 0) = false := by rw [beq_eq_false_iff_ne]; omega
  clear h
  go_enter Try.func38, Try.ntmps38
  go_wp2
  go_ret
  simp [*]
theorem lacks_calls {w : World} {p : Nat} {T : List Nat} {D : Di} (h : Pd9 w p T D) (l : Int) : Calls Try.prog 45 #[PtD p, .int .i64 l] w fun e w' => e = .returned (.bool (!D.known l)) ∧ w = w' := by
  obtain ⟨v, b, u, Z, h, _⟩ := h
  have h1 := h.c2
  unfold Di.known
  have lem : (decide (l < 1) || decide ((D.k : Int) < l)) = !decide (1 ≤ l ∧ l ≤ (D.k : Int)) := by
    rw [Bool.eq_iff_iff]
    simp
  clear h
  go_enter Try.func45, Try.ntmps45
  go_wp2
  all_goals
    go_ret
    first | exact ⟨congrArg (fun b => Ending.returned (Value.bool b)) lem, rfl⟩ | (simp [*]; done)
theorem Try.zeroWord (w : World) : (zeroValue 71).run Try.prog w = .ok (.pointer none) w := by kernel_rfl
theorem lastOf_calls {w : World} {p : Nat} {v : Value} {b : Nat} {u : Value} {Z : List (Nat × We)} {D : Di} (h : PdV w p v b u Z D) (l : Int) : Calls Try.prog 40 #[PtD p, .int .i64 l] w fun e w' => e = .returned (ptO (headZ Z l)) ∧ w = w' := by
  have H := Lib.hid (none_calls (T := _) ⟨v, b, u, Z, h, rfl⟩)
  have h1 := h.c1
  have hl := h.body.mp.look (P := Try.prog) Try.underlying66 Try.underlying3 (Try.zeroWord w) l
  obtain ⟨o, ho⟩ : ∃ o, o = ptO (headZ Z l) := ⟨_, rfl⟩
  rw [← ho] at hl ⊢
  clear h ho
  go_enter Try.func40, Try.ntmps40
  go_wp2_with fail
  refine (H.out).mono ?_
  rintro e w1 ⟨rfl, rfl⟩
  go_wp2_with fail
  go_ret
  exact ⟨rfl, rfl⟩
theorem psetcur_calls {w : World} {p : Nat} {T : List Nat} {D : Di} (h : Pd9 w p T D) (l : Int) : Calls Try.prog 27 #[PtD p, .int .i64 l] w (PPlays p T (.int .i64 (if D.known l then 0 else -49)) (if D.known l then { D with c := l } else D) w) := by
  have H1 := Lib.hid (none_calls h)
  have H := Lib.hid (lacks_calls h l)
  have HH := Lib.hid h
  obtain ⟨v, b, u, Z, hv, rfl⟩ := h
  have h3 := hv.c4
  have hf := hv.f 4
  have hs := hv.setc l
  have HS := Lib.hid hs
  clear hv hs
  obtain ⟨c, hc⟩ : ∃ c, c = D.known l := ⟨_, rfl⟩
  rw [← hc] at H ⊢
  clear hc
  unfold PPlays
  cases c with
  | true =>
    go_enter Try.func27, Try.ntmps27
    go_wp2_with fail
    refine (H1.out).mono ?_
    rintro e w1 ⟨rfl, rfl⟩
    go_wp2_with fail
    refine (H.out).mono ?_
    rintro e w1 ⟨rfl, rfl⟩
    go_wp2_with fail
    go_ret
    exact ⟨rfl, _, ⟨v, b, u, Z, HS.out.1, rfl⟩, TurnD.of (upP HS.out.2)⟩
  | false =>
    go_enter Try.func27, Try.ntmps27
    go_wp2_with fail
    refine (H1.out).mono ?_
    rintro e w1 ⟨rfl, rfl⟩
    go_wp2_with fail
    refine (H.out).mono ?_
    rintro e w1 ⟨rfl, rfl⟩
    go_wp2_with fail
    go_ret
    exact ⟨rfl, _, HH.out, TurnD.refl _ _⟩
theorem pcurrent_calls {w : World} {p : Nat} {T : List Nat} {D : Di} (h : Pd9 w p T D) : Calls Try.prog 14 #[PtD p] w (DTells (.int .i64 D.c) w) := by
  have H1 := Lib.hid (none_calls h)
  obtain ⟨v, b, u, Z, hv, rfl⟩ := h
  have h3 := hv.c4
  have hM := Mod.refl [] w
  clear hv
  unfold DTells
  go_enter Try.func14, Try.ntmps14
  go_wp2_with fail
  refine (H1.out).mono ?_
  rintro e w1 ⟨rfl, rfl⟩
  go_wp2_with fail
  go_ret
  exact ⟨rfl, hM⟩
theorem plist_calls {w : World} {p : Nat} {T : List Nat} {D : Di} (h : Pd9 w p T D) : Calls Try.prog 26 #[PtD p] w (PPlays p T (if D.k < 8 then .tuple #[.int .i64 ((D.k + 1 : Nat) : Int), .int .i64 0] else .tuple #[.int .i64 0, .int .i64 (-49)]) (if D.k < 8 then { D with k := D.k + 1 } else D) w) := by
  have H1 := Lib.hid (none_calls h)
  have HH := Lib.hid h
  obtain ⟨v, b, u, Z, hv, rfl⟩ := h
  have h1 := hv.c2
  have hf := hv.f 2
  unfold PPlays
  by_cases hk : D.k < 8
  · rw [if_pos hk, if_pos hk]
    have hs := hv.setk (D.k + 1) (by omega) (by omega)
    rw [show ((D.k + 1 : Nat) : Int) = (D.k : Int) + 1 by omega] at hs ⊢
    have hc1 := hs.1.c2
    rw [show ((D.k + 1 : Nat) : Int) = (D.k : Int) + 1 by omega] at hc1
    have HS := Lib.hid hs
    have hkI : ¬ (8 : Int) ≤ (D.k : Int) := by omega
    clear hv hs
    go_enter Try.func26, Try.ntmps26
    go_wp2_with fail
    refine (H1.out).mono ?_
    rintro e w1 ⟨rfl, rfl⟩
    go_wp2_with fail
    go_ret2
    exact ⟨rfl, _, ⟨v, b, u, Z, HS.out.1, rfl⟩, TurnD.of (upP HS.out.2)⟩
  · rw [if_neg hk, if_neg hk]
    have hkI : (8 : Int) ≤ (D.k : Int) := by omega
    clear hv
    go_enter Try.func26, Try.ntmps26
    go_wp2_with fail
    refine (H1.out).mono ?_
    rintro e w1 ⟨rfl, rfl⟩
    go_wp2_with fail
    go_ret2
    exact ⟨rfl, _, HH.out, TurnD.refl _ _⟩
end Go.Proofs.Ytldnpppbnakcoaa
