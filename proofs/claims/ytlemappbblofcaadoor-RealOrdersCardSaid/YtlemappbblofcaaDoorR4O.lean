/- Layer 4: RealOrders's walk. Condition: cells are integers of 64 bits. -/
import Derived.Test.YtlemappbblofcaaDoorR4J
namespace Go.Proofs.YtlemappbblofcaaDoor
open Go.RowKit Ieee
set_option linter.unusedVariables false

theorem o_two (op p q c : Int) (w : World) (h : ∀ W, Calls Tryd.prog 14 #[.int .i64 op, .int .i64 p, .int .i64 q] W fun e w' => e = .returned (.tuple #[.int .i64 c, .int .i64 0]) ∧ Ext W w') :
    From w 13 #[.int .i64 op, .int .i64 p, .int .i64 q] (.int .i64 c) := From.far (two_o op p q c h)
theorem less_none (a b : Int) (h : double.order (fbits a) (fbits b) = none) : ∀ W, Calls Tryd.prog 14 #[.int .i64 9, .int .i64 a, .int .i64 b] W fun e w' => e = .returned (.tuple #[.int .i64 0, .int .i64 0]) ∧ Ext W w' := fun W => by
  have k := two_less a b W
  rw [h] at k
  exact k
theorem eq_none (a b : Int) (h : double.order (fbits a) (fbits b) = none) : ∀ W, Calls Tryd.prog 14 #[.int .i64 10, .int .i64 a, .int .i64 b] W fun e w' => e = .returned (.tuple #[.int .i64 0, .int .i64 0]) ∧ Ext W w' := fun W => by
  have k := two_equal a b W
  rw [h] at k
  exact k
theorem min_none (a b : Int) (h : double.order (fbits a) (fbits b) = none) : ∀ W, Calls Tryd.prog 14 #[.int .i64 7, .int .i64 a, .int .i64 b] W fun e w' => e = .returned (.tuple #[.int .i64 9221120237041090560, .int .i64 0]) ∧ Ext W w' := fun W => by
  have k := two_min a b W
  unfold minW at k
  rw [h] at k
  exact k
theorem max_none (a b : Int) (h : double.order (fbits a) (fbits b) = none) : ∀ W, Calls Tryd.prog 14 #[.int .i64 8, .int .i64 a, .int .i64 b] W fun e w' => e = .returned (.tuple #[.int .i64 9221120237041090560, .int .i64 0]) ∧ Ext W w' := fun W => by
  have k := two_max a b W
  unfold maxW at k
  rw [h] at k
  exact k
theorem less_some (a b : Int) (c : Ordering) (h : double.order (fbits a) (fbits b) = some c) : ∀ W, Calls Tryd.prog 14 #[.int .i64 9, .int .i64 a, .int .i64 b] W fun e w' => e = .returned (.tuple #[.int .i64 (truthI (c == .lt)), .int .i64 0]) ∧ Ext W w' := fun W => by
  have k := two_less a b W
  rw [h] at k
  exact k
theorem eq_some (a b : Int) (c : Ordering) (h : double.order (fbits a) (fbits b) = some c) : ∀ W, Calls Tryd.prog 14 #[.int .i64 10, .int .i64 a, .int .i64 b] W fun e w' => e = .returned (.tuple #[.int .i64 (truthI (c == .eq)), .int .i64 0]) ∧ Ext W w' := fun W => by
  have k := two_equal a b W
  rw [h] at k
  exact k
/-- The least and the greatest of two are both. -/
theorem min_max_some (a b : Int) (ha : I64 a) (hb : I64 b) (na : isN (fbits a) = false) (nb : isN (fbits b) = false) (c : Ordering) (h : double.order (fbits a) (fbits b) = some c) :
    ∃ lo hi d, ((lo = a ∧ hi = b) ∨ (lo = b ∧ hi = a)) ∧ (d == Ordering.lt) = false ∧ double.order (fbits hi) (fbits lo) = some d ∧
      (∀ W, Calls Tryd.prog 14 #[.int .i64 7, .int .i64 a, .int .i64 b] W fun e w' => e = .returned (.tuple #[.int .i64 lo, .int .i64 0]) ∧ Ext W w') ∧
      (∀ W, Calls Tryd.prog 14 #[.int .i64 8, .int .i64 a, .int .i64 b] W fun e w' => e = .returned (.tuple #[.int .i64 hi, .int .i64 0]) ∧ Ext W w') := by
  have ca := cell_fbits ha na
  have cb := cell_fbits hb nb
  have k1 := two_min a b
  have k2 := two_max a b
  unfold minW at k1
  unfold maxW at k2
  rw [h] at k1 k2
  have hs : double.order (fbits b) (fbits a) = some c.swap := by rw [order_swap, h]; rfl
  cases c with
  | lt =>
    refine ⟨a, b, _, Or.inl ⟨rfl, rfl⟩, rfl, hs, ?_, ?_⟩
    · intro W; have k := k1 W; simp only [resOf] at k; rw [ca] at k; exact k
    · intro W; have k := k2 W; simp only [resOf] at k; rw [cb] at k; exact k
  | gt =>
    refine ⟨b, a, _, Or.inr ⟨rfl, rfl⟩, rfl, h, ?_, ?_⟩
    · intro W; have k := k1 W; simp only [resOf] at k; rw [cb] at k; exact k
    · intro W; have k := k2 W; simp only [resOf] at k; rw [ca] at k; exact k
  | eq =>
    cases hn : (double.read (fbits a)).neg with
    | true =>
      refine ⟨a, b, _, Or.inl ⟨rfl, rfl⟩, rfl, hs, ?_, ?_⟩
      · intro W; have k := k1 W; simp only [resOf, hn] at k; simp only [if_true] at k; rw [ca] at k; exact k
      · intro W; have k := k2 W; simp only [resOf, hn] at k; simp only [if_true] at k; rw [cb] at k; exact k
    | false =>
      refine ⟨b, a, _, Or.inr ⟨rfl, rfl⟩, rfl, h, ?_, ?_⟩
      · intro W; have k := k1 W; simp only [resOf, hn] at k; simp only [Bool.false_eq_true, if_false] at k; rw [cb] at k; exact k
      · intro W; have k := k2 W; simp only [resOf, hn] at k; simp only [Bool.false_eq_true, if_false] at k; rw [ca] at k; exact k
set_option maxHeartbeats 4000000 in
set_option maxRecDepth 100000 in
theorem orders_nan (a b : Int) (h : isN (fbits a) = true ∨ isN (fbits b) = true) (w : World) (g : Good w) :
    Calls Tryd.prog 5 #[.int .i64 a, .int .i64 b] w fun e w' => e = .returned (.bool true) ∧ Far w w' := by
  have o1 : double.order (fbits a) (fbits b) = none := by
    rcases h with h | h
    · exact order_none_l _ _ h
    · exact order_none_r _ _ h
  have o2 : double.order (fbits b) (fbits a) = none := by
    rcases h with h | h
    · exact order_none_r _ _ h
    · exact order_none_l _ _ h
  have HSH := Lib.hid (From.good g (shown4_calls) (w := w))
  have L1 := Lib.hid (o_two 9 a b 0 w (less_none a b o1))
  have L2 := Lib.hid (o_two 9 b a 0 w (less_none b a o2))
  have E1 := Lib.hid (o_two 10 a b 0 w (eq_none a b o1))
  have M1 := Lib.hid (o_two 7 a b _ w (min_none a b o1))
  have M2 := Lib.hid (o_two 8 a b _ w (max_none a b o1))
  have hf := Far.refl w
  clear o1 o2
  rcases fbits_split a with n | ⟨s, r, hx, hi⟩
  · have N1 := Lib.hid (From.far (none_nan a n) (w := w))
    clear n h
    go_enter Tryd.func5, Tryd.ntmps5
    try simp only [List.append]
    go_wp2_with (first | ((with_reducible refine (HSH.out _ ?_).mono ?_); assumption; rintro e w' ⟨rfl, hf⟩) | ((with_reducible refine (L1.out _ ?_).mono ?_); assumption; rintro e w' ⟨rfl, hf⟩) | ((with_reducible refine (L2.out _ ?_).mono ?_); assumption; rintro e w' ⟨rfl, hf⟩) | ((with_reducible refine (E1.out _ ?_).mono ?_); assumption; rintro e w' ⟨rfl, hf⟩) | ((with_reducible refine (M1.out _ ?_).mono ?_); assumption; rintro e w' ⟨rfl, hf⟩) | ((with_reducible refine (M2.out _ ?_).mono ?_); assumption; rintro e w' ⟨rfl, hf⟩) | ((with_reducible refine (N1.out _ ?_).mono ?_); assumption; rintro e w' ⟨rfl, hf⟩))
    go_ret
    exact ⟨rfl, by assumption⟩
  · have N1 := Lib.hid (From.good g (none_num a s r hx hi) (w := w))
    have hb : isN (fbits b) = true := by
      rcases h with h | h
      · rw [hx, isN_word s hi] at h; cases h
      · exact h
    have N2 := Lib.hid (From.far (none_nan b hb) (w := w))
    clear hx hi h hb
    go_enter Tryd.func5, Tryd.ntmps5
    try simp only [List.append]
    go_wp2_with (first | ((with_reducible refine (HSH.out _ ?_).mono ?_); assumption; rintro e w' ⟨rfl, hf⟩) | ((with_reducible refine (L1.out _ ?_).mono ?_); assumption; rintro e w' ⟨rfl, hf⟩) | ((with_reducible refine (L2.out _ ?_).mono ?_); assumption; rintro e w' ⟨rfl, hf⟩) | ((with_reducible refine (E1.out _ ?_).mono ?_); assumption; rintro e w' ⟨rfl, hf⟩) | ((with_reducible refine (M1.out _ ?_).mono ?_); assumption; rintro e w' ⟨rfl, hf⟩) | ((with_reducible refine (M2.out _ ?_).mono ?_); assumption; rintro e w' ⟨rfl, hf⟩) | ((with_reducible refine (N1.out _ ?_).mono ?_); assumption; rintro e w' ⟨rfl, hf⟩) | ((with_reducible refine (N2.out _ ?_).mono ?_); assumption; rintro e w' ⟨rfl, hf⟩))
    go_ret
    exact ⟨rfl, by assumption⟩
set_option maxHeartbeats 4000000 in
set_option maxRecDepth 100000 in
theorem orders_num (a b : Int) (ha : I64 a) (hb : I64 b) (s t : Bool) (r q : Nat) (hx : fbits a = double.word s r) (hr : r ≤ 9218868437227405312) (hy : fbits b = double.word t q) (hq : q ≤ 9218868437227405312) (w : World) (g : Good w) :
    Calls Tryd.prog 5 #[.int .i64 a, .int .i64 b] w fun e w' => e = .returned (.bool true) ∧ Far w w' := by
  have na : isN (fbits a) = false := by rw [hx]; exact isN_word s hr
  have nb : isN (fbits b) = false := by rw [hy]; exact isN_word t hq
  obtain ⟨c, o1⟩ := order_some _ _ na nb
  have o2 : double.order (fbits b) (fbits a) = some c.swap := by rw [order_swap, o1]; rfl
  obtain ⟨lo, hi, d, hlh, hd, o3, m1, m2⟩ := min_max_some a b ha hb na nb c o1
  have hlh2 : (lo = a ∧ hi = b ∧ (c.swap == Ordering.lt) = false) ∨ (lo = b ∧ hi = a ∧ (c == Ordering.lt) = false) := by
    rcases hlh with ⟨p, q⟩ | ⟨p, q⟩
    · left
      refine ⟨p, q, ?_⟩
      rw [p, q, o2] at o3
      injection o3 with k
      rw [k]; exact hd
    · right
      refine ⟨p, q, ?_⟩
      rw [p, q, o1] at o3
      injection o3 with k
      rw [k]; exact hd
  have o4 : double.order (fbits a) (fbits a) = some .eq := by rw [order_self, na]; rfl
  have hsame : a = b → c = .eq := by
    intro h
    rw [← h, o4] at o1
    injection o1 with k
    exact k.symm
  have HSH := Lib.hid (From.good g (shown4_calls) (w := w))
  have l1 := o_two 9 a b _ w (less_some a b c o1)
  have l2 := o_two 9 b a _ w (less_some b a _ o2)
  have e1 := o_two 10 a b _ w (eq_some a b c o1)
  have l3 := o_two 9 hi lo _ w (less_some hi lo d o3)
  have e2 := o_two 10 a a _ w (eq_some a a _ o4)
  rw [hd] at l3
  rw [show truthI (Ordering.eq == Ordering.eq) = -1 from rfl] at e2
  rw [show truthI false = 0 from rfl] at l3
  have M1 := Lib.hid (o_two 7 a b _ w m1)
  have M2 := Lib.hid (o_two 8 a b _ w m2)
  have L3 := Lib.hid l3
  have E2 := Lib.hid e2
  have N1 := Lib.hid (From.good g (none_num a s r hx hr) (w := w))
  have N2 := Lib.hid (From.good g (none_num b t q hy hq) (w := w))
  have hf := Far.refl w
  clear o1 o2 o3 o4 na nb m1 m2 hx hy hr hq g hd e2 l3 ha hb
  have L1 := Lib.hid l1
  have L2 := Lib.hid l2
  have E1 := Lib.hid e1
  clear l1 l2 e1
  obtain ⟨x, y, z, ex, ey, ez, exyz⟩ : ∃ x y z : Int, x = truthI (c == .lt) ∧ y = truthI (c.swap == .lt) ∧ z = truthI (c == .eq) ∧ ((x = -1 ∧ y = 0 ∧ z = 0) ∨ (x = 0 ∧ y = -1 ∧ z = 0) ∨ (x = 0 ∧ y = 0 ∧ z = -1)) := ⟨_, _, _, rfl, rfl, rfl, by cases c <;> decide⟩
  have hlh3 : (lo = a ∧ hi = b ∧ y = 0) ∨ (lo = b ∧ hi = a ∧ x = 0) := by
    rcases hlh2 with ⟨p, q, k⟩ | ⟨p, q, k⟩
    · exact Or.inl ⟨p, q, by rw [ey, k]; rfl⟩
    · exact Or.inr ⟨p, q, by rw [ex, k]; rfl⟩
  have hz : a = b → z = -1 := fun h => by rw [ez, hsame h]; rfl
  clear hsame
  rw [← ex] at L1
  rw [← ey] at L2
  rw [← ez] at E1
  clear ex ey ez hlh hlh2 c
  have hba : (a == a) = true := by simp
  rcases hlh3 with ⟨rfl, rfl, k⟩ | ⟨rfl, rfl, k⟩ <;> rcases exyz with ⟨rfl, rfl, rfl⟩ | ⟨rfl, rfl, rfl⟩ | ⟨rfl, rfl, rfl⟩
  all_goals first | (exact absurd k (by decide)) | clear k
  all_goals by_cases q : lo = hi
  all_goals first | (have qz := hz (by first | exact q | exact q.symm); first | (exact absurd qz (by decide)) | (clear hz qz; subst q)) | (clear hz; have q1 : (lo == hi) = false := beq_eq_false_iff_ne.2 q; have q2 : (hi == lo) = false := beq_eq_false_iff_ne.2 (fun z => q z.symm); clear q)
  all_goals
    go_enter Tryd.func5, Tryd.ntmps5
    try simp only [List.append]
    go_wp2_with (first | ((with_reducible refine (HSH.out _ ?_).mono ?_); assumption; rintro e w' ⟨rfl, hf⟩) | ((with_reducible refine (L1.out _ ?_).mono ?_); assumption; rintro e w' ⟨rfl, hf⟩) | ((with_reducible refine (L2.out _ ?_).mono ?_); assumption; rintro e w' ⟨rfl, hf⟩) | ((with_reducible refine (E1.out _ ?_).mono ?_); assumption; rintro e w' ⟨rfl, hf⟩) | ((with_reducible refine (M1.out _ ?_).mono ?_); assumption; rintro e w' ⟨rfl, hf⟩) | ((with_reducible refine (M2.out _ ?_).mono ?_); assumption; rintro e w' ⟨rfl, hf⟩) | ((with_reducible refine (N1.out _ ?_).mono ?_); assumption; rintro e w' ⟨rfl, hf⟩) | ((with_reducible refine (N2.out _ ?_).mono ?_); assumption; rintro e w' ⟨rfl, hf⟩) | ((with_reducible refine (L3.out _ ?_).mono ?_); assumption; rintro e w' ⟨rfl, hf⟩) | ((with_reducible refine (E2.out _ ?_).mono ?_); assumption; rintro e w' ⟨rfl, hf⟩))
    all_goals
      go_ret
      exact ⟨rfl, by assumption⟩
end Go.Proofs.YtlemappbblofcaaDoor
