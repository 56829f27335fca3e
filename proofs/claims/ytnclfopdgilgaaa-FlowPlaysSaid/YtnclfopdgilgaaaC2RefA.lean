/- The document's answers for layer 2 (package rhytonref02), over integers. Condition: cells are integers of 64 bits. -/
import Derived.Test.YtnclfopdgilgaaaPair
import Derived.Test.YtnclfopdgilgaaaJP
namespace Go.Proofs.Ytnclfopdgilgaaa
open Go.RowKit
set_option linter.unusedVariables false

theorem ret_pair {a b c d : Int} (h : a = c) (k : b = d) : Ending.returned (.agg #[.int .i64 a, .int .i64 b]) = .returned (.agg #[.int .i64 c, .int .i64 d]) := by rw [h, k]

theorem rbelow_calls (a b : Int) (w : World) : Calls Try.prog 71 #[.int .i64 a, .int .i64 b] w fun e w' => e = .returned (.bool (decide (U a < U b))) ∧ w = w' := by
  have ea : IntKind.u64.wrap a = U a := u64_wrap a
  have eb : IntKind.u64.wrap b = U b := u64_wrap b
  go_enter Try.func71, Try.ntmps71
  go_wp2
  go_ret
  exact ⟨rfl, rfl⟩

theorem rof_calls (w0 : World) (a : Int) (ha : I64 a) (w : World) (h : Ext w0 w) : Calls Try.prog 40 #[.int .i64 a] w fun e w' => e = .returned (.agg #[.int .i64 (lo a), .int .i64 (hi a)]) ∧ Ext w0 w' := by
  rw [(of_is a ha).1, (of_is a ha).2]
  by_cases hn : a < 0
  · rw [if_pos hn]
    go_enter Try.func40, Try.ntmps40
    go_wp2
    exact bodyPost_ret (v := .agg #[.int .i64 a, .int .i64 (-1)]) (by simp [results, Try.results40, go_sem]) rfl ⟨rfl, h.cells _ _⟩
  · rw [if_neg hn]
    have hn' : 0 ≤ a := by omega
    go_enter Try.func40, Try.ntmps40
    go_wp2
    exact bodyPost_ret (v := .agg #[.int .i64 a, .int .i64 0]) (by simp [results, Try.results40, go_sem]) rfl ⟨rfl, h.cells _ _⟩

theorem radd_calls (w0 : World) (a b c d : Int) (ha : I64 a) (hb : I64 b) (hc : I64 c) (hd : I64 d) (w : World) (h : Ext w0 w) :
    Calls Try.prog 68 #[.agg #[.int .i64 a, .int .i64 b], .agg #[.int .i64 c, .int .i64 d]] w fun e w' => e = .returned (.agg #[.int .i64 (lo (V a b + V c d)), .int .i64 (hi (V a b + V c d))]) ∧ Ext w0 w' := by
  obtain ⟨e1, e2⟩ := add_is a b c d ha hb hc hd
  rw [e1, e2]
  clear e1 e2 ha hb hc hd
  by_cases hlt : U (wrap64 (a + c)) < U a
  · rw [if_pos hlt]
    go_enter Try.func68, Try.ntmps68
    go_wp2_with (go_at_call 71; refine (rbelow_calls _ _ _).mono ?_; rintro e w' ⟨rfl, rfl⟩)
    exact bodyPost_ret (v := .agg #[.int .i64 (wrap64 (a + c)), .int .i64 (wrap64 (wrap64 (b + d) + 1))]) (by simp [results, Try.results68, go_sem]) rfl ⟨rfl, ((h.cells _ _).cells _ _).cells _ _⟩
  · rw [if_neg hlt]
    have hge : U a ≤ U (wrap64 (a + c)) := by omega
    go_enter Try.func68, Try.ntmps68
    go_wp2_with (go_at_call 71; refine (rbelow_calls _ _ _).mono ?_; rintro e w' ⟨rfl, rfl⟩)
    exact bodyPost_ret (v := .agg #[.int .i64 (wrap64 (a + c)), .int .i64 (wrap64 (b + d))]) (by simp [results, Try.results68, go_sem]) rfl ⟨rfl, ((h.cells _ _).cells _ _).cells _ _⟩

theorem V_one : V 1 0 = 1 := by unfold V U; omega
theorem rneg_calls (w0 : World) (a b : Int) (ha : I64 a) (hb : I64 b) (w : World) (h : Ext w0 w) :
    Calls Try.prog 61 #[.agg #[.int .i64 a, .int .i64 b]] w fun e w' => e = .returned (.agg #[.int .i64 (lo (-V a b)), .int .i64 (hi (-V a b))]) ∧ Ext w0 w' := by
  have e : V (wrap64 (-1 - a)) (wrap64 (-1 - b)) + V 1 0 = -V a b := by rw [not_is a b ha hb, V_one]; omega
  have hc := Lib.hid (fun w => radd_calls w (wrap64 (-1 - a)) (wrap64 (-1 - b)) 1 0 (i64_wrap _) (i64_wrap _) (by unfold I64; omega) (by unfold I64; omega) w (Ext.refl w))
  rw [e] at hc
  clear e ha hb
  go_enter Try.func61, Try.ntmps61
  go_wp2_with fail
  refine (hc.out _).mono ?_
  rintro e w' ⟨rfl, hx⟩
  have hX := ((h.cells _ _).cells _ _).trans hx
  obtain ⟨c0, c1, f0, f1, hs⟩ := ext_last2 hx
  simp only [size_alloc] at c0 c1 f0 f1 hs
  have hs0 := h.1.size
  clear hx hc
  go_wp2
  exact bodyPost_ret (v := .agg #[.int .i64 (lo (-V a b)), .int .i64 (hi (-V a b))]) (by simp [results, Try.results61, go_sem, c0, c1]) rfl ⟨rfl, (hX.setCell (by simp; omega) _).setCell (by simp; omega) _⟩
theorem rtwice_calls (w0 : World) (a b : Int) (ha : I64 a) (hb : I64 b) (w : World) (h : Ext w0 w) :
    Calls Try.prog 73 #[.agg #[.int .i64 a, .int .i64 b]] w fun e w' => e = .returned (.agg #[.int .i64 (lo (2 * V a b)), .int .i64 (hi (2 * V a b))]) ∧ Ext w0 w' := by
  have hc := Lib.hid (fun w => radd_calls w a b a b ha hb ha hb w (Ext.refl w))
  rw [← Int.two_mul] at hc
  clear ha hb
  go_enter Try.func73, Try.ntmps73
  go_wp2_with fail
  refine (hc.out _).mono ?_
  rintro e w' ⟨rfl, hx⟩
  have hX := ((h.cells _ _).cells _ _).trans hx
  obtain ⟨c0, c1, f0, f1, hs⟩ := ext_last2 hx
  simp only [size_alloc] at c0 c1 f0 f1 hs
  have hs0 := h.1.size
  clear hx hc
  go_wp2
  exact bodyPost_ret (v := .agg #[.int .i64 (lo (2 * V a b)), .int .i64 (hi (2 * V a b))]) (by simp [results, Try.results73, go_sem, c0, c1]) rfl ⟨rfl, (hX.setCell (by simp; omega) _).setCell (by simp; omega) _⟩

theorem ruless_calls (w0 : World) (a b c d : Int) (ha : I64 a) (hb : I64 b) (hc : I64 c) (hd : I64 d) (w : World) (h : Ext w0 w) :
    Calls Try.prog 74 #[.agg #[.int .i64 a, .int .i64 b], .agg #[.int .i64 c, .int .i64 d]] w fun e w' => e = .returned (.bool (decide (W a b < W c d))) ∧ Ext w0 w' := by
  have e := W_less a b c d
  have e0 := U_inj hb hd
  by_cases hq : b = d
  · subst hq
    have e1 : decide (W a b < W c b) = decide (U a < U c) := by rw [decide_eq_decide, e]; omega
    rw [e1]
    clear e e0 e1 ha hb hc hd
    go_enter Try.func74, Try.ntmps74
    go_wp2_with (go_at_call 71; refine (rbelow_calls _ _ _).mono ?_; rintro e w' ⟨rfl, rfl⟩)
    go_ret
    exact ⟨rfl, (h.cells _ _).cells _ _⟩
  · have e1 : decide (W a b < W c d) = decide (U b < U d) := by rw [decide_eq_decide, e]; omega
    have hq' : (b != d) = true := by simpa using hq
    rw [e1]
    clear e e0 e1 ha hb hc hd hq
    go_enter Try.func74, Try.ntmps74
    go_wp2_with (go_at_call 71; refine (rbelow_calls _ _ _).mono ?_; rintro e w' ⟨rfl, rfl⟩)
    go_ret
    exact ⟨rfl, (h.cells _ _).cells _ _⟩

end Go.Proofs.Ytnclfopdgilgaaa
