/- Layer 4: RealCells's walk. Condition: cells are integers of 64 bits. -/
import Derived.Test.YtlemappbblofcaaDoorR4J
namespace Go.Proofs.YtlemappbblofcaaDoor
open Go.RowKit Ieee
set_option linter.unusedVariables false

theorem size_calls (z : Int) (w : World) : Calls Tryd.prog 18 #[.int .i64 z] w fun e w' => e = .returned (.int .i64 (cellOf (absW (fbits z)))) ∧ w = w' := by
  have h := Lib.hid (one_abs z)
  generalize cellOf (absW (fbits z)) = c at *
  go_enter Tryd.func18, Tryd.ntmps18
  go_wp2_with fail
  refine (h.out _).mono ?_
  rintro e w1 ⟨rfl, rfl⟩
  go_wp2_with fail
  go_ret
  exact ⟨rfl, rfl⟩
theorem fbits_nn {r : Nat} (h : r ≤ 9218868437227405312) : fbits (cellOf r) = r := fbits_cell (by omega) (isN_f h)
theorem of_one : cellOf (ofF 1) = 4607182418800017408 := of1
/-- What the law asks of a cell that is made a real number. -/
inductive First (n : Int) : Int → Int → Prop
  | small (h1 : -9007199254740992 < n) (h2 : n < 9007199254740992) : First n n 0
  | near (x : Int) (h : n ≤ -9007199254740992 ∨ 9007199254740992 ≤ n) (h1 : x - n ≤ 512) (h2 : n - x ≤ 512) (hx : I64 x) : First n x 0
  | far (h : 9223372036854775296 ≤ n) : First n 0 (-43)
theorem first_to (n : Int) (hn : I64 n) : ∃ x e, First n x e ∧ ∀ W, Calls Tryd.prog 16 #[.int .i64 (cellOf (ofF n))] W fun en w' => en = .returned (.tuple #[.int .i64 x, .int .i64 e]) ∧ W = w' := by
  unfold I64 at hn
  by_cases c1 : -9007199254740992 < n ∧ n < 9007199254740992
  · obtain ⟨k, rk, hb⟩ := read_of n (by omega)
    refine ⟨n, 0, .small c1.1 c1.2, fun W => ?_⟩
    have t := to_in (cellOf (ofF n)) _ _ _ (by rw [fbits_of]; exact rk) hb (by omega) W
    have e : tr (n.natAbs * 2 ^ k) (-(k : Int)) = n.natAbs := by
      unfold tr
      rw [show (-(k : Int)).toNat = 0 by omega, show (- -(k : Int)).toNat = k by omega, Nat.pow_zero, Nat.mul_one]
      exact Nat.mul_div_cancel _ (Nat.two_pow_pos k)
    rw [e] at t
    have e2 : (if decide (n < 0) = true then -(n.natAbs : Int) else (n.natAbs : Int)) = n := by
      by_cases h : n < 0
      · rw [decide_eq_true h, if_pos rfl]; omega
      · rw [decide_eq_false h, if_neg (by decide)]; omega
    rw [e2] at t
    exact t
  · obtain ⟨M, E, rk, m1, m2, e1, e2, b1, b2, b3, b4⟩ := big_of (decide (n < 0)) n.natAbs (by omega) (by omega)
    have et : tr M E = M * 2 ^ E.toNat := by unfold tr; rw [show (-E).toNat = 0 by omega, Nat.pow_zero, Nat.div_one]
    by_cases c2 : E < 11
    · refine ⟨_, 0, .near (if decide (n < 0) = true then -(tr M E : Int) else (tr M E : Int)) (by omega) ?_ ?_ ?_, fun W => to_in (cellOf (ofF n)) _ M E (by rw [fbits_of]; exact rk) m2 c2 W⟩
      · rw [et]
        generalize M * 2 ^ E.toNat = T at *
        by_cases h : n < 0
        · rw [decide_eq_true h, if_pos rfl]; omega
        · rw [decide_eq_false h, if_neg (by decide)]; omega
      · rw [et]
        generalize M * 2 ^ E.toNat = T at *
        by_cases h : n < 0
        · rw [decide_eq_true h, if_pos rfl]; omega
        · rw [decide_eq_false h, if_neg (by decide)]; omega
      · have := tr_lt m2 c2
        unfold I64
        cases decide (n < 0) <;> simp <;> omega
    · have eE : E = 11 := by omega
      have eM := b4 (by omega)
      subst eE eM
      by_cases h : n < 0
      · refine ⟨-9223372036854775808, 0, .near _ (by omega) ?_ ?_ ⟨by decide, by decide⟩, fun W => to_low (cellOf (ofF n)) (by rw [fbits_of, ofF_is, decide_eq_true h]; rw [decide_eq_true h] at rk; exact rk) W⟩
        · have : (4503599627370496 * 2 ^ (11 : Int).toNat : Nat) = 9223372036854775808 := by decide
          rw [this] at b1 b2; omega
        · have : (4503599627370496 * 2 ^ (11 : Int).toNat : Nat) = 9223372036854775808 := by decide
          rw [this] at b1 b2; omega
      · refine ⟨0, -43, .far ?_, fun W => to_out (cellOf (ofF n)) (Or.inr (Or.inr ⟨false, _, _, by rw [fbits_of, ofF_is, decide_eq_false h]; rw [decide_eq_false h] at rk; exact rk, by decide, by decide, fun q => by cases q.1⟩)) W⟩
        have : (4503599627370496 * 2 ^ (11 : Int).toNat : Nat) = 9223372036854775808 := by decide
        rw [this] at b1 b2; omega
/-- What the law asks of a real number that is made a cell. -/
structure Second (f y : Int) (sf sy oy d sd : Int) : Prop where
  to : ∀ W, Calls Tryd.prog 16 #[.int .i64 f] W fun en w' => en = .returned (.tuple #[.int .i64 y, .int .i64 0]) ∧ W = w'
  szf : ∀ W, Calls Tryd.prog 18 #[.int .i64 f] W fun e w' => e = .returned (.int .i64 sf) ∧ W = w'
  ofy : ∀ W, Calls Tryd.prog 17 #[.int .i64 y] W fun e w' => e = .returned (.int .i64 oy) ∧ W = w'
  szy : ∀ W, Calls Tryd.prog 18 #[.int .i64 oy] W fun e w' => e = .returned (.int .i64 sy) ∧ W = w'
  ls1 : ∀ W, Calls Tryd.prog 14 #[.int .i64 9, .int .i64 sf, .int .i64 sy] W fun e w' => e = .returned (.tuple #[.int .i64 0, .int .i64 0]) ∧ Ext W w'
  sub : ∀ W, Calls Tryd.prog 14 #[.int .i64 4, .int .i64 f, .int .i64 oy] W fun e w' => e = .returned (.tuple #[.int .i64 d, .int .i64 0]) ∧ Ext W w'
  szd : ∀ W, Calls Tryd.prog 18 #[.int .i64 d] W fun e w' => e = .returned (.int .i64 sd) ∧ W = w'
  ls2 : ∀ W, Calls Tryd.prog 14 #[.int .i64 9, .int .i64 sd, .int .i64 4607182418800017408] W fun e w' => e = .returned (.tuple #[.int .i64 (-1), .int .i64 0]) ∧ Ext W w'
theorem second_in (f : Int) (s : Bool) (M : Nat) (E : Int) (hc : Can M E) (hx : fbits f = double.word s (rung M E)) (y : Int) (hy : (if s then -(tr M E : Int) else (tr M E : Int)) = y)
    (to : ∀ W, Calls Tryd.prog 16 #[.int .i64 f] W fun en w' => en = .returned (.tuple #[.int .i64 y, .int .i64 0]) ∧ W = w') : ∃ sf sy oy d sd, Second f y sf sy oy d sd := by
  have hr := rung_lt hc
  have nb := not_below s M E hc
  obtain ⟨sg, m, p, hs, ho⟩ := rest_one s M E hc
  rw [hy] at nb hs
  refine ⟨_, _, _, _, _, ⟨to, size_calls f, of_calls y, size_calls _, fun W => ?_, fun W => ?_, size_calls (cellOf (double.nearest sg m p)), fun W => ?_⟩⟩
  · have k := two_less (cellOf (absW (fbits f))) (cellOf (absW (fbits (cellOf (ofF y))))) W
    rw [fbits_of, hx, absW_word s (by omega), fbits_nn (Nat.le_of_lt hr)] at k
    have hle : absW (ofF y) ≤ 9218868437227405312 := by rw [ofF_is, absW_nearest]; exact nearest_le _ _
    rw [fbits_nn hle, nb] at k
    rw [fbits_of, hx, absW_word s (by omega)]
    exact k
  · have k := two_sub f (cellOf (ofF y)) W
    rw [fbits_of, hx, hs] at k
    exact k
  · have k := two_less (cellOf (absW (fbits (cellOf (double.nearest sg m p))))) 4607182418800017408 W
    have hle : absW (double.nearest sg m p) ≤ 9218868437227405312 := by rw [absW_nearest]; exact nearest_le _ _
    rw [fbits_nearest, fbits_nn hle, show fbits 4607182418800017408 = 4607182418800017408 by decide +kernel, ho] at k
    rw [fbits_nearest]
    exact k
theorem second_any (f : Int) : (∀ W, Calls Tryd.prog 16 #[.int .i64 f] W fun en w' => en = .returned (.tuple #[.int .i64 0, .int .i64 (-43)]) ∧ W = w') ∨ ∃ y sf sy oy d sd, Second f y sf sy oy d sd := by
  rcases fbits_split f with n | ⟨s, r, hx, hi⟩
  · exact Or.inl (to_out f (Or.inl n))
  · by_cases c : r = 9218868437227405312
    · subst c
      exact Or.inl (to_out f (Or.inr (Or.inl ⟨s, by rw [hx]; exact read_inf s⟩)))
    · have hr : r < 9218868437227405312 := by omega
      have hc := rung_can hr
      have hb := rung_back hr
      have hrd : double.read (fbits f) = .number s (rM r) (rE r) := by rw [hx]; exact read_fin s hr
      by_cases c1 : rE r < 11
      · right
        obtain ⟨sf, sy, oy, d, sd, h⟩ := second_in f s (rM r) (rE r) hc (by rw [hb]; exact hx) _ rfl (to_in f s _ _ hrd hc.lt c1)
        exact ⟨_, sf, sy, oy, d, sd, h⟩
      · have ht : 4503599627370496 ≤ rM r := by
          rcases hc.top with k | k
          · exact k
          · omega
        by_cases c2 : s = true ∧ rM r = 4503599627370496 ∧ rE r = 11
        · right
          obtain ⟨rfl, e1, e2⟩ := c2
          rw [e1, e2] at hrd
          obtain ⟨sf, sy, oy, d, sd, h⟩ := second_in f true (rM r) (rE r) hc (by rw [hb]; exact hx) (-9223372036854775808) (by rw [e1, e2]; decide +kernel) (to_low f hrd)
          exact ⟨_, sf, sy, oy, d, sd, h⟩
        · exact Or.inl (to_out f (Or.inr (Or.inr ⟨s, _, _, hrd, ht, by omega, c2⟩)))
set_option maxHeartbeats 4000000 in
set_option maxRecDepth 100000 in
theorem cells_ways (n f : Int) (hn : I64 n) (w : World) (g : Good w) :
    Calls Tryd.prog 6 #[.int .i64 n, .int .i64 f] w fun e w' => e = .returned (.bool true) ∧ Far w w' := by
  obtain ⟨x, e, h1, t1⟩ := first_to n hn
  have HSH := Lib.hid (From.good g (shown4_calls) (w := w))
  have OF := Lib.hid (From.same (of_calls n) (w := w))
  have T1 := Lib.hid (From.same t1 (w := w))
  have o1 := of_calls 1
  rw [of_one] at o1
  have O1 := Lib.hid (From.same o1 (w := w))
  have hf := Far.refl w
  clear g t1 o1
  generalize cellOf (ofF n) = cn at *
  obtain ⟨n1, n2⟩ := hn
  cases h1 with
  | small a b =>
    rcases second_any f with t2 | ⟨y, sf, sy, oy, d, sd, q⟩
    · have T2 := Lib.hid (From.same t2 (w := w))
      clear t2
      go_enter Tryd.func6, Tryd.ntmps6
      try simp only [List.append]
      go_wp2_with (first | ((with_reducible refine (HSH.out _ ?_).mono ?_); assumption; rintro e w' ⟨rfl, hf⟩) | ((with_reducible refine (OF.out _ ?_).mono ?_); assumption; rintro e w' ⟨rfl, hf⟩) | ((with_reducible refine (T1.out _ ?_).mono ?_); assumption; rintro e w' ⟨rfl, hf⟩) | ((with_reducible refine (T2.out _ ?_).mono ?_); assumption; rintro e w' ⟨rfl, hf⟩))
      all_goals (go_ret; exact ⟨rfl, by assumption⟩)
    · have Q1 := Lib.hid (From.same q.to (w := w)); have Q2 := Lib.hid (From.same q.szf (w := w)); have Q3 := Lib.hid (From.same q.ofy (w := w)); have Q4 := Lib.hid (From.same q.szy (w := w)); have Q5 := Lib.hid (From.ext q.ls1 (w := w)); have Q6 := Lib.hid (From.ext q.sub (w := w)); have Q7 := Lib.hid (From.same q.szd (w := w)); have Q8 := Lib.hid (From.ext q.ls2 (w := w)); clear q
      go_enter Tryd.func6, Tryd.ntmps6
      try simp only [List.append]
      go_wp2_with (first | ((with_reducible refine (HSH.out _ ?_).mono ?_); assumption; rintro e w' ⟨rfl, hf⟩) | ((with_reducible refine (OF.out _ ?_).mono ?_); assumption; rintro e w' ⟨rfl, hf⟩) | ((with_reducible refine (T1.out _ ?_).mono ?_); assumption; rintro e w' ⟨rfl, hf⟩) | ((with_reducible refine (O1.out _ ?_).mono ?_); assumption; rintro e w' ⟨rfl, hf⟩) | ((with_reducible refine (Q1.out _ ?_).mono ?_); assumption; rintro e w' ⟨rfl, hf⟩) | ((with_reducible refine (Q2.out _ ?_).mono ?_); assumption; rintro e w' ⟨rfl, hf⟩) | ((with_reducible refine (Q3.out _ ?_).mono ?_); assumption; rintro e w' ⟨rfl, hf⟩) | ((with_reducible refine (Q4.out _ ?_).mono ?_); assumption; rintro e w' ⟨rfl, hf⟩) | ((with_reducible refine (Q5.out _ ?_).mono ?_); assumption; rintro e w' ⟨rfl, hf⟩) | ((with_reducible refine (Q6.out _ ?_).mono ?_); assumption; rintro e w' ⟨rfl, hf⟩) | ((with_reducible refine (Q7.out _ ?_).mono ?_); assumption; rintro e w' ⟨rfl, hf⟩) | ((with_reducible refine (Q8.out _ ?_).mono ?_); assumption; rintro e w' ⟨rfl, hf⟩))
      all_goals (go_ret; exact ⟨rfl, by assumption⟩)
  | near x a b c hx =>
    obtain ⟨x1, x2⟩ := hx
    rcases a with a | a
    all_goals
      rcases second_any f with t2 | ⟨y, sf, sy, oy, d, sd, q⟩
      · have T2 := Lib.hid (From.same t2 (w := w))
        clear t2
        go_enter Tryd.func6, Tryd.ntmps6
        try simp only [List.append]
        go_wp2_with (first | ((with_reducible refine (HSH.out _ ?_).mono ?_); assumption; rintro e w' ⟨rfl, hf⟩) | ((with_reducible refine (OF.out _ ?_).mono ?_); assumption; rintro e w' ⟨rfl, hf⟩) | ((with_reducible refine (T1.out _ ?_).mono ?_); assumption; rintro e w' ⟨rfl, hf⟩) | ((with_reducible refine (T2.out _ ?_).mono ?_); assumption; rintro e w' ⟨rfl, hf⟩))
        all_goals (go_ret; exact ⟨rfl, by assumption⟩)
      · have Q1 := Lib.hid (From.same q.to (w := w)); have Q2 := Lib.hid (From.same q.szf (w := w)); have Q3 := Lib.hid (From.same q.ofy (w := w)); have Q4 := Lib.hid (From.same q.szy (w := w)); have Q5 := Lib.hid (From.ext q.ls1 (w := w)); have Q6 := Lib.hid (From.ext q.sub (w := w)); have Q7 := Lib.hid (From.same q.szd (w := w)); have Q8 := Lib.hid (From.ext q.ls2 (w := w)); clear q
        go_enter Tryd.func6, Tryd.ntmps6
        try simp only [List.append]
        go_wp2_with (first | ((with_reducible refine (HSH.out _ ?_).mono ?_); assumption; rintro e w' ⟨rfl, hf⟩) | ((with_reducible refine (OF.out _ ?_).mono ?_); assumption; rintro e w' ⟨rfl, hf⟩) | ((with_reducible refine (T1.out _ ?_).mono ?_); assumption; rintro e w' ⟨rfl, hf⟩) | ((with_reducible refine (O1.out _ ?_).mono ?_); assumption; rintro e w' ⟨rfl, hf⟩) | ((with_reducible refine (Q1.out _ ?_).mono ?_); assumption; rintro e w' ⟨rfl, hf⟩) | ((with_reducible refine (Q2.out _ ?_).mono ?_); assumption; rintro e w' ⟨rfl, hf⟩) | ((with_reducible refine (Q3.out _ ?_).mono ?_); assumption; rintro e w' ⟨rfl, hf⟩) | ((with_reducible refine (Q4.out _ ?_).mono ?_); assumption; rintro e w' ⟨rfl, hf⟩) | ((with_reducible refine (Q5.out _ ?_).mono ?_); assumption; rintro e w' ⟨rfl, hf⟩) | ((with_reducible refine (Q6.out _ ?_).mono ?_); assumption; rintro e w' ⟨rfl, hf⟩) | ((with_reducible refine (Q7.out _ ?_).mono ?_); assumption; rintro e w' ⟨rfl, hf⟩) | ((with_reducible refine (Q8.out _ ?_).mono ?_); assumption; rintro e w' ⟨rfl, hf⟩))
        all_goals (go_ret; exact ⟨rfl, by assumption⟩)
  | far a =>
    rcases second_any f with t2 | ⟨y, sf, sy, oy, d, sd, q⟩
    · have T2 := Lib.hid (From.same t2 (w := w))
      clear t2
      go_enter Tryd.func6, Tryd.ntmps6
      try simp only [List.append]
      go_wp2_with (first | ((with_reducible refine (HSH.out _ ?_).mono ?_); assumption; rintro e w' ⟨rfl, hf⟩) | ((with_reducible refine (OF.out _ ?_).mono ?_); assumption; rintro e w' ⟨rfl, hf⟩) | ((with_reducible refine (T1.out _ ?_).mono ?_); assumption; rintro e w' ⟨rfl, hf⟩) | ((with_reducible refine (T2.out _ ?_).mono ?_); assumption; rintro e w' ⟨rfl, hf⟩))
      all_goals (go_ret; exact ⟨rfl, by assumption⟩)
    · have Q1 := Lib.hid (From.same q.to (w := w)); have Q2 := Lib.hid (From.same q.szf (w := w)); have Q3 := Lib.hid (From.same q.ofy (w := w)); have Q4 := Lib.hid (From.same q.szy (w := w)); have Q5 := Lib.hid (From.ext q.ls1 (w := w)); have Q6 := Lib.hid (From.ext q.sub (w := w)); have Q7 := Lib.hid (From.same q.szd (w := w)); have Q8 := Lib.hid (From.ext q.ls2 (w := w)); clear q
      go_enter Tryd.func6, Tryd.ntmps6
      try simp only [List.append]
      go_wp2_with (first | ((with_reducible refine (HSH.out _ ?_).mono ?_); assumption; rintro e w' ⟨rfl, hf⟩) | ((with_reducible refine (OF.out _ ?_).mono ?_); assumption; rintro e w' ⟨rfl, hf⟩) | ((with_reducible refine (T1.out _ ?_).mono ?_); assumption; rintro e w' ⟨rfl, hf⟩) | ((with_reducible refine (O1.out _ ?_).mono ?_); assumption; rintro e w' ⟨rfl, hf⟩) | ((with_reducible refine (Q1.out _ ?_).mono ?_); assumption; rintro e w' ⟨rfl, hf⟩) | ((with_reducible refine (Q2.out _ ?_).mono ?_); assumption; rintro e w' ⟨rfl, hf⟩) | ((with_reducible refine (Q3.out _ ?_).mono ?_); assumption; rintro e w' ⟨rfl, hf⟩) | ((with_reducible refine (Q4.out _ ?_).mono ?_); assumption; rintro e w' ⟨rfl, hf⟩) | ((with_reducible refine (Q5.out _ ?_).mono ?_); assumption; rintro e w' ⟨rfl, hf⟩) | ((with_reducible refine (Q6.out _ ?_).mono ?_); assumption; rintro e w' ⟨rfl, hf⟩) | ((with_reducible refine (Q7.out _ ?_).mono ?_); assumption; rintro e w' ⟨rfl, hf⟩) | ((with_reducible refine (Q8.out _ ?_).mono ?_); assumption; rintro e w' ⟨rfl, hf⟩))
      all_goals (go_ret; exact ⟨rfl, by assumption⟩)
end Go.Proofs.YtlemappbblofcaaDoor
