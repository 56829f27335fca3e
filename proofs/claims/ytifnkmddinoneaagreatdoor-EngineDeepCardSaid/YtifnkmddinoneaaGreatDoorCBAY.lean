/- Layer 15: the engine's words and instructions of more than one call. Condition: the block is an engine (Eg). Layer 15: a word is executed, whatever it is. Condition: the block is an engine (Eg); of the state's Do what is said. -/
import Derived.Test.YtifnkmddinoneaaGreatDoorCBAX
set_option maxRecDepth 100000
namespace Go.Proofs.YtifnkmddinoneaaGreatDoor
open Go.RowKit
set_option linter.unusedVariables false
section
variable {w w' : World} {A : Ag} {E : Es} {T : List Nat}
theorem last_cases (L : List Int) : L = [] ∨ ∃ R x, L = R ++ [x] := by
  rcases List.eq_nil_or_concat L with h | ⟨A, q, h⟩
  · exact Or.inl h
  · exact Or.inr ⟨A, q, by simpa using h⟩
theorem popword_nil {f : Int → Es → Int × Es} (h : E.C = []) : popWord f E = (-4, E) := by unfold popWord; rw [h]; rfl
theorem popword_snoc {f : Int → Es → Int × Es} {R : List Int} {x : Int} (h : E.C = R ++ [x]) : popWord f E = if (E.word x).isSome then f x { E with C := R } else (-9, { E with C := R }) := by
  unfold popWord
  rw [h]
  simp
theorem ctl7 (E : Es) : ctlE 7 E = popWord (fun x E => (0, { E with nx := x })) E := by unfold ctlE; simp
theorem ctl8 (E : Es) : ctlE 8 E = popWord (fun x E => if 128 < E.F.length + 2 then (-5, E) else (0, { E with F := E.F ++ [callFr E, catchFr E], d := 0, i := 0, nx := x })) E := by unfold ctlE; simp
theorem ctl2 (E : Es) : ctlE 2 E = if (cellE E).1 = 0 then (0, { (cellE E).2 with F := E.F.dropLast }) else cellE E := by unfold ctlE; simp
set_option maxHeartbeats 2000000 in
theorem drop_calls (h : Eg w A T E) (x : L10.Xi) : Calls Tryz.prog 101 #[Pt A.g, insV x] w (Plays A T w (stV (after (takingE 1 (fun _ E => (0, E)) E)).1) (after (takingE 1 (fun _ E => (0, E)) E)).2) := by
  obtain ⟨xo, xa, xw⟩ := x
  unfold insV
  dsimp only at *
  have hb := h.far (L14.al_mod w (.cells #[.int .u8 (xo : Int), .int .i64 xa, .int .i64 xw] 61))
  have hz := L14.size_allocI w (.cells #[.int .u8 (xo : Int), .int .i64 xa, .int .i64 xw] 61)
  have h0 := hb.far (L14.al_mod (w.alloc (.cells #[.int .u8 (xo : Int), .int .i64 xa, .int .i64 xw] 61)) zst)
  rcases last_cases E.C with hC | ⟨R, y, hC⟩
  · rw [show takingE 1 (fun _ E => (0, E)) E = (-4, E) by unfold takingE; rw [hC]; rfl]
    have H1 := Lib.hid (estack_calls h0)
    have H2 := Lib.hid (h0.spop0 hC)
    have H3 := Lib.hid h0
    clear hC
    have HA := fun W T' (h' : Eg W A T' (E)) => after_calls h' (-4) (i64_of_small (by omega))
    generalize after (-4, (E)) = S at HA ⊢
    obtain ⟨⟨s0, s1, s2⟩, E'⟩ := S
    have HA := Lib.hid HA
    have HH := Lib.hid hb
    clear h h0 hb
    go_enter Tryz.func101, Tryz.ntmps101
    go_wp2_with fail
    refine (H1.out).mono ?_
    rintro e w1 ⟨rfl, rfl⟩
    go_wp2_with fail
    refine (H2.out).mono ?_
    rintro e w1 ⟨rfl, rfl⟩
    go_wp2_with fail
    refine (HA.out _ T H3.out).mono ?_
    rintro e w9 ⟨rfl, T9, h9, t9⟩
    obtain ⟨b1, b2⟩ := box_beside HH.out (t9) h9
    rw [hz] at b1 b2
    obtain ⟨c0, c1, c2, g0, g1, g2⟩ := three_at b1
    have HB := Lib.hid (And.intro b1 b2)
    clear b1 b2
    unfold stV
    dsimp only
    go_wp2_with fail
    obtain ⟨b1, b2⟩ := HB.out
    obtain ⟨k1, k2⟩ := three_set b1 (.int .i64 s0) (.int .i64 s1) (.int .i64 s2)
    obtain ⟨h5, t5⟩ := b2 _ k2
    exact bodyPost_ret (res_st Tryz.results101 rfl k1) rfl ⟨rfl, _, h5, (Tn.far (L14.al_mod w (.cells #[.int .u8 (xo : Int), .int .i64 xa, .int .i64 xw] 61))).trans t5⟩
  · rw [show takingE 1 (fun _ E => (0, E)) E = (0, { E with C := R }) by unfold takingE; rw [hC]; simp]
    have H1 := Lib.hid (estack_calls h0)
    have H2 := Lib.hid (h0.spop hC)
    clear hC
    have HA := fun W T' (h' : Eg W A T' ({ E with C := R })) => after_calls h' (0) i64_0
    generalize after (0, ({ E with C := R })) = S at HA ⊢
    obtain ⟨⟨s0, s1, s2⟩, E'⟩ := S
    have HA := Lib.hid HA
    have HH := Lib.hid hb
    clear h h0 hb
    go_enter Tryz.func101, Tryz.ntmps101
    go_wp2_with fail
    refine (H1.out).mono ?_
    rintro e w1 ⟨rfl, rfl⟩
    go_wp2_with fail
    refine (H2.out).mono ?_
    rintro e w2 ⟨rfl, T2, h2, t2⟩
    have HP := Lib.hid (And.intro h2 t2)
    clear h2 t2 H1 H2
    go_wp2_with fail
    refine (HA.out _ _ HP.out.1).mono ?_
    rintro e w9 ⟨rfl, T9, h9, t9⟩
    obtain ⟨b1, b2⟩ := box_beside HH.out (HP.out.2.trans t9) h9
    rw [hz] at b1 b2
    obtain ⟨c0, c1, c2, g0, g1, g2⟩ := three_at b1
    have HB := Lib.hid (And.intro b1 b2)
    clear b1 b2
    unfold stV
    dsimp only
    go_wp2_with fail
    obtain ⟨b1, b2⟩ := HB.out
    obtain ⟨k1, k2⟩ := three_set b1 (.int .i64 s0) (.int .i64 s1) (.int .i64 s2)
    obtain ⟨h5, t5⟩ := b2 _ k2
    exact bodyPost_ret (res_st Tryz.results101 rfl k1) rfl ⟨rfl, _, h5, (Tn.far (L14.al_mod w (.cells #[.int .u8 (xo : Int), .int .i64 xa, .int .i64 xw] 61))).trans t5⟩
set_option maxHeartbeats 2000000 in
theorem throw_taken (h : Eg w A T E) : Calls Tryz.prog 90 #[Pt A.g] w (Plays A T w (stV (after (ctlE 9 E)).1) (after (ctlE 9 E)).2) := by
  have h0 := h.far (L14.al_mod w zst)
  have hb := h
  rcases last_cases E.C with hC | ⟨R, y, hC⟩
  · rw [show ctlE 9 E = (-4, E) by unfold ctlE; simp [hC]]
    have H1 := Lib.hid (estack_calls h0)
    have H2 := Lib.hid (h0.spop0 hC)
    have H3 := Lib.hid h0
    clear hC
    have HA := fun W T' (h' : Eg W A T' (E)) => after_calls h' (-4) (i64_of_small (by omega))
    generalize after (-4, (E)) = S at HA ⊢
    obtain ⟨⟨s0, s1, s2⟩, E'⟩ := S
    have HA := Lib.hid HA
    have HH := Lib.hid hb
    clear h h0 hb
    go_enter Tryz.func90, Tryz.ntmps90
    go_wp2_with fail
    refine (H1.out).mono ?_
    rintro e w1 ⟨rfl, rfl⟩
    go_wp2_with fail
    refine (H2.out).mono ?_
    rintro e w1 ⟨rfl, rfl⟩
    go_wp2_with fail
    refine (HA.out _ T H3.out).mono ?_
    rintro e w9 ⟨rfl, T9, h9, t9⟩
    obtain ⟨b1, b2⟩ := box_beside HH.out (t9) h9
    obtain ⟨c0, c1, c2, g0, g1, g2⟩ := three_at b1
    have HB := Lib.hid (And.intro b1 b2)
    clear b1 b2
    unfold stV
    dsimp only
    go_wp2_with fail
    obtain ⟨b1, b2⟩ := HB.out
    obtain ⟨k1, k2⟩ := three_set b1 (.int .i64 s0) (.int .i64 s1) (.int .i64 s2)
    obtain ⟨h5, t5⟩ := b2 _ k2
    exact bodyPost_ret (res_st Tryz.results90 rfl k1) rfl ⟨rfl, _, h5, t5⟩
  · have hy : I64 y := h.i64 y (by rw [hC]; simp)
    rw [show ctlE 9 E = (y, { E with C := R }) by unfold ctlE; simp [hC]]
    have H1 := Lib.hid (estack_calls h0)
    have H2 := Lib.hid (h0.spop hC)
    clear hC
    have HA := fun W T' (h' : Eg W A T' ({ E with C := R })) => after_calls h' (y) hy
    generalize after (y, ({ E with C := R })) = S at HA ⊢
    obtain ⟨⟨s0, s1, s2⟩, E'⟩ := S
    have HA := Lib.hid HA
    have HH := Lib.hid hb
    clear h h0 hb
    go_enter Tryz.func90, Tryz.ntmps90
    go_wp2_with fail
    refine (H1.out).mono ?_
    rintro e w1 ⟨rfl, rfl⟩
    go_wp2_with fail
    refine (H2.out).mono ?_
    rintro e w2 ⟨rfl, T2, h2, t2⟩
    have HP := Lib.hid (And.intro h2 t2)
    clear h2 t2 H1 H2
    go_wp2_with fail
    refine (HA.out _ _ HP.out.1).mono ?_
    rintro e w9 ⟨rfl, T9, h9, t9⟩
    obtain ⟨b1, b2⟩ := box_beside HH.out (HP.out.2.trans t9) h9
    obtain ⟨c0, c1, c2, g0, g1, g2⟩ := three_at b1
    have HB := Lib.hid (And.intro b1 b2)
    clear b1 b2
    unfold stV
    dsimp only
    go_wp2_with fail
    obtain ⟨b1, b2⟩ := HB.out
    obtain ⟨k1, k2⟩ := three_set b1 (.int .i64 s0) (.int .i64 s1) (.int .i64 s2)
    obtain ⟨h5, t5⟩ := b2 _ k2
    exact bodyPost_ret (res_st Tryz.results90 rfl k1) rfl ⟨rfl, _, h5, t5⟩
set_option maxHeartbeats 2000000 in
theorem execute_taken (h : Eg w A T E) : Calls Tryz.prog 88 #[Pt A.g] w (Plays A T w (stV (after (ctlE 7 E)).1) (after (ctlE 7 E)).2) := by
  have h0 := h.far (L14.al_mod w zst)
  have hb := h
  rcases last_cases E.C with hC | ⟨R, y, hC⟩
  · rw [show ctlE 7 E = (-4, E) from (ctl7 E).trans (popword_nil hC)]
    have H1 := Lib.hid (takeword0 h0 hC)
    have H3 := Lib.hid h0
    clear hC
    have HA := fun W T' (h' : Eg W A T' (E)) => after_calls h' (-4) (i64_of_small (by omega))
    generalize after (-4, (E)) = S at HA ⊢
    obtain ⟨⟨s0, s1, s2⟩, E'⟩ := S
    have HA := Lib.hid HA
    have HH := Lib.hid hb
    clear h h0 hb
    go_enter Tryz.func88, Tryz.ntmps88
    go_wp2_with fail
    refine (H1.out).mono ?_
    rintro e w1 ⟨rfl, rfl⟩
    go_wp2_with fail
    refine (HA.out _ T H3.out).mono ?_
    rintro e w9 ⟨rfl, T9, h9, t9⟩
    obtain ⟨b1, b2⟩ := box_beside HH.out (t9) h9
    obtain ⟨c0, c1, c2, g0, g1, g2⟩ := three_at b1
    have HB := Lib.hid (And.intro b1 b2)
    clear b1 b2
    unfold stV
    dsimp only
    go_wp2_with fail
    obtain ⟨b1, b2⟩ := HB.out
    obtain ⟨k1, k2⟩ := three_set b1 (.int .i64 s0) (.int .i64 s1) (.int .i64 s2)
    obtain ⟨h5, t5⟩ := b2 _ k2
    exact bodyPost_ret (res_st Tryz.results88 rfl k1) rfl ⟨rfl, _, h5, t5⟩
  · have hy : I64 y := h.i64 y (by rw [hC]; simp)
    rw [ctl7, popword_snoc hC]
    have H1 := takeword1 h0 hC
    cases hw : (E.word y).isSome with
    | false =>
      rw [hw] at H1
      rw [if_neg (by decide), if_neg (by decide)] at H1
      rw [if_neg (by decide)]
      have H1 := Lib.hid H1
      clear hC hw
      have HA := fun W T' (h' : Eg W A T' ({ E with C := R })) => after_calls h' (-9) (i64_of_small (by omega))
      generalize after (-9, ({ E with C := R })) = S at HA ⊢
      obtain ⟨⟨s0, s1, s2⟩, E'⟩ := S
      have HA := Lib.hid HA
      have HH := Lib.hid hb
      clear h h0 hb
      go_enter Tryz.func88, Tryz.ntmps88
      go_wp2_with fail
      refine (H1.out).mono ?_
      rintro e w2 ⟨rfl, T2, h2, t2⟩
      have HP := Lib.hid (And.intro h2 t2)
      clear h2 t2 H1
      go_wp2_with fail
      refine (HA.out _ _ HP.out.1).mono ?_
      rintro e w9 ⟨rfl, T9, h9, t9⟩
      obtain ⟨b1, b2⟩ := box_beside HH.out (HP.out.2.trans t9) h9
      obtain ⟨c0, c1, c2, g0, g1, g2⟩ := three_at b1
      have HB := Lib.hid (And.intro b1 b2)
      clear b1 b2
      unfold stV
      dsimp only
      go_wp2_with fail
      obtain ⟨b1, b2⟩ := HB.out
      obtain ⟨k1, k2⟩ := three_set b1 (.int .i64 s0) (.int .i64 s1) (.int .i64 s2)
      obtain ⟨h5, t5⟩ := b2 _ k2
      exact bodyPost_ret (res_st Tryz.results88 rfl k1) rfl ⟨rfl, _, h5, t5⟩
    | true =>
      rw [hw] at H1
      rw [if_pos rfl, if_pos rfl] at H1
      rw [if_pos rfl]
      have H1 := Lib.hid H1
      have HY := Lib.hid hy
      clear hC hw
      dsimp only
      have HA := fun W T' (h' : Eg W A T' ({ E with C := R, nx := y })) => after_calls h' (0) i64_0
      generalize after (0, ({ E with C := R, nx := y })) = S at HA ⊢
      obtain ⟨⟨s0, s1, s2⟩, E'⟩ := S
      have HA := Lib.hid HA
      have HH := Lib.hid hb
      clear h h0 hb
      go_enter Tryz.func88, Tryz.ntmps88
      go_wp2_with fail
      refine (H1.out).mono ?_
      rintro e w2 ⟨rfl, T2, h2, t2⟩
      have c8 := h2.cs.c8
      have f8 := h2.cs.f8
      have HP := Lib.hid (And.intro (h2.set8 y HY.out) t2)
      clear h2 t2 H1
      go_wp2_with fail
      refine (HA.out _ _ HP.out.1.1).mono ?_
      rintro e w9 ⟨rfl, T9, h9, t9⟩
      obtain ⟨b1, b2⟩ := box_beside HH.out ((HP.out.2.trans HP.out.1.2).trans t9) h9
      obtain ⟨c0, c1, c2, g0, g1, g2⟩ := three_at b1
      have HB := Lib.hid (And.intro b1 b2)
      clear b1 b2
      unfold stV
      dsimp only
      go_wp2_with fail
      obtain ⟨b1, b2⟩ := HB.out
      obtain ⟨k1, k2⟩ := three_set b1 (.int .i64 s0) (.int .i64 s1) (.int .i64 s2)
      obtain ⟨h5, t5⟩ := b2 _ k2
      exact bodyPost_ret (res_st Tryz.results88 rfl k1) rfl ⟨rfl, _, h5, t5⟩
set_option maxHeartbeats 2000000 in
theorem catch_taken (h : Eg w A T E) : Calls Tryz.prog 89 #[Pt A.g] w (Plays A T w (stV (after (ctlE 8 E)).1) (after (ctlE 8 E)).2) := by
  have h0 := h.far (L14.al_mod w zst)
  have hb := h
  rcases last_cases E.C with hC | ⟨R, y, hC⟩
  · rw [show ctlE 8 E = (-4, E) from (ctl8 E).trans (popword_nil hC)]
    have H1 := Lib.hid (takeword0 h0 hC)
    have H3 := Lib.hid h0
    clear hC
    have HA := fun W T' (h' : Eg W A T' (E)) => after_calls h' (-4) (i64_of_small (by omega))
    generalize after (-4, (E)) = S at HA ⊢
    obtain ⟨⟨s0, s1, s2⟩, E'⟩ := S
    have HA := Lib.hid HA
    have HH := Lib.hid hb
    clear h h0 hb
    go_enter Tryz.func89, Tryz.ntmps89
    go_wp2_with fail
    refine (H1.out).mono ?_
    rintro e w1 ⟨rfl, rfl⟩
    go_wp2_with fail
    refine (HA.out _ T H3.out).mono ?_
    rintro e w9 ⟨rfl, T9, h9, t9⟩
    obtain ⟨b1, b2⟩ := box_beside HH.out (t9) h9
    obtain ⟨c0, c1, c2, g0, g1, g2⟩ := three_at b1
    have HB := Lib.hid (And.intro b1 b2)
    clear b1 b2
    unfold stV
    dsimp only
    go_wp2_with fail
    obtain ⟨b1, b2⟩ := HB.out
    obtain ⟨k1, k2⟩ := three_set b1 (.int .i64 s0) (.int .i64 s1) (.int .i64 s2)
    obtain ⟨h5, t5⟩ := b2 _ k2
    exact bodyPost_ret (res_st Tryz.results89 rfl k1) rfl ⟨rfl, _, h5, t5⟩
  · have hy : I64 y := h.i64 y (by rw [hC]; simp)
    rw [ctl8, popword_snoc hC]
    have H1 := takeword1 h0 hC
    cases hw : (E.word y).isSome with
    | false =>
      rw [hw] at H1
      rw [if_neg (by decide), if_neg (by decide)] at H1
      rw [if_neg (by decide)]
      have H1 := Lib.hid H1
      clear hC hw
      have HA := fun W T' (h' : Eg W A T' ({ E with C := R })) => after_calls h' (-9) (i64_of_small (by omega))
      generalize after (-9, ({ E with C := R })) = S at HA ⊢
      obtain ⟨⟨s0, s1, s2⟩, E'⟩ := S
      have HA := Lib.hid HA
      have HH := Lib.hid hb
      clear h h0 hb
      go_enter Tryz.func89, Tryz.ntmps89
      go_wp2_with fail
      refine (H1.out).mono ?_
      rintro e w2 ⟨rfl, T2, h2, t2⟩
      have HP := Lib.hid (And.intro h2 t2)
      clear h2 t2 H1
      go_wp2_with fail
      refine (HA.out _ _ HP.out.1).mono ?_
      rintro e w9 ⟨rfl, T9, h9, t9⟩
      obtain ⟨b1, b2⟩ := box_beside HH.out (HP.out.2.trans t9) h9
      obtain ⟨c0, c1, c2, g0, g1, g2⟩ := three_at b1
      have HB := Lib.hid (And.intro b1 b2)
      clear b1 b2
      unfold stV
      dsimp only
      go_wp2_with fail
      obtain ⟨b1, b2⟩ := HB.out
      obtain ⟨k1, k2⟩ := three_set b1 (.int .i64 s0) (.int .i64 s1) (.int .i64 s2)
      obtain ⟨h5, t5⟩ := b2 _ k2
      exact bodyPost_ret (res_st Tryz.results89 rfl k1) rfl ⟨rfl, _, h5, t5⟩
    | true =>
      rw [hw] at H1
      rw [if_pos rfl, if_pos rfl] at H1
      rw [if_pos rfl]
      have H1 := Lib.hid H1
      have HY := Lib.hid hy
      have hc := fun W T' (h' : Eg W A T' { E with C := R }) => pushcatch_calls h'
      dsimp only at hc ⊢
      by_cases hl : 128 < E.F.length + 2
      · simp only [hl, if_true] at hc
        rw [if_pos hl]
        have HCC := Lib.hid hc
        clear hC hw hl hc
        have HA := fun W T' (h' : Eg W A T' ({ E with C := R })) => after_calls h' (-5) (i64_of_small (by omega))
        generalize after (-5, ({ E with C := R })) = S at HA ⊢
        obtain ⟨⟨s0, s1, s2⟩, E'⟩ := S
        have HA := Lib.hid HA
        have HH := Lib.hid hb
        clear h h0 hb
        go_enter Tryz.func89, Tryz.ntmps89
        go_wp2_with fail
        refine (H1.out).mono ?_
        rintro e w2 ⟨rfl, T2, h2, t2⟩
        have H2 := Lib.hid (HCC.out _ _ h2)
        have HP := Lib.hid t2
        clear h2 t2 H1 HCC
        go_wp2_with fail
        refine (H2.out).mono ?_
        rintro e w3 ⟨rfl, T3, h3, t3⟩
        have HQ := Lib.hid (And.intro h3 t3)
        clear h3 t3 H2
        go_wp2_with fail
        refine (HA.out _ _ HQ.out.1).mono ?_
        rintro e w9 ⟨rfl, T9, h9, t9⟩
        obtain ⟨b1, b2⟩ := box_beside HH.out ((HP.out.trans HQ.out.2).trans t9) h9
        obtain ⟨c0, c1, c2, g0, g1, g2⟩ := three_at b1
        have HB := Lib.hid (And.intro b1 b2)
        clear b1 b2
        unfold stV
        dsimp only
        go_wp2_with fail
        obtain ⟨b1, b2⟩ := HB.out
        obtain ⟨k1, k2⟩ := three_set b1 (.int .i64 s0) (.int .i64 s1) (.int .i64 s2)
        obtain ⟨h5, t5⟩ := b2 _ k2
        exact bodyPost_ret (res_st Tryz.results89 rfl k1) rfl ⟨rfl, _, h5, t5⟩
      · simp only [hl, if_false] at hc
        rw [if_neg hl]
        have HCC := Lib.hid hc
        clear hC hw hl hc
        have HA := fun W T' (h' : Eg W A T' ({ E with C := R, F := E.F ++ [callFr { E with C := R }, catchFr { E with C := R }], d := 0, i := 0, nx := y })) => after_calls h' (0) i64_0
        generalize after (0, ({ E with C := R, F := E.F ++ [callFr { E with C := R }, catchFr { E with C := R }], d := 0, i := 0, nx := y })) = S at HA ⊢
        obtain ⟨⟨s0, s1, s2⟩, E'⟩ := S
        have HA := Lib.hid HA
        have HH := Lib.hid hb
        clear h h0 hb
        go_enter Tryz.func89, Tryz.ntmps89
        go_wp2_with fail
        refine (H1.out).mono ?_
        rintro e w2 ⟨rfl, T2, h2, t2⟩
        have H2 := Lib.hid (HCC.out _ _ h2)
        have HP := Lib.hid t2
        clear h2 t2 H1 HCC
        go_wp2_with fail
        refine (H2.out).mono ?_
        rintro e w3 ⟨rfl, T3, h3, t3⟩
        have c6 := h3.cs.c6
        have c7 := h3.cs.c7
        have c8 := h3.cs.c8
        have f6 := h3.cs.f6
        have f7 := h3.cs.f7
        have f8 := h3.cs.f8
        obtain ⟨q1, q2⟩ := h3.place 0 0 i64_0 i64_0
        obtain ⟨q3, q4⟩ := q1.set8 y HY.out
        have HQ := Lib.hid (And.intro q3 ((t3.trans q2).trans q4))
        clear h3 t3 H2 q1 q2 q3 q4
        go_wp2_with fail
        refine (HA.out _ _ HQ.out.1).mono ?_
        rintro e w9 ⟨rfl, T9, h9, t9⟩
        obtain ⟨b1, b2⟩ := box_beside HH.out ((HP.out.trans HQ.out.2).trans t9) h9
        obtain ⟨c0, c1, c2, g0, g1, g2⟩ := three_at b1
        have HB := Lib.hid (And.intro b1 b2)
        clear b1 b2
        unfold stV
        dsimp only
        go_wp2_with fail
        obtain ⟨b1, b2⟩ := HB.out
        obtain ⟨k1, k2⟩ := three_set b1 (.int .i64 s0) (.int .i64 s1) (.int .i64 s2)
        obtain ⟨h5, t5⟩ := b2 _ k2
        exact bodyPost_ret (res_st Tryz.results89 rfl k1) rfl ⟨rfl, _, h5, t5⟩
set_option maxHeartbeats 2000000 in
theorem fromr_calls (h : Eg w A T E) : Calls Tryz.prog 83 #[Pt A.g] w (Plays A T w (stV (after (ctlE 2 E)).1) (after (ctlE 2 E)).2) := by
  have h0 := h.far (L14.al_mod w zst)
  have hb := h
  have H1 := pushframed_calls h0
  have HE := cell_i64 E
  have hF : (cellE E).2.F = E.F := by
    unfold cellE
    split
    · rfl
    · rfl
  have hK : (cellE E).1 = 0 → L14.popL 2 (cellE E).2.F = E.F.dropLast := fun e => by
    rw [hF]
    unfold cellE at e
    rcases topK_cases 2 E.F with ⟨e1, _⟩ | ⟨B, q, e0, _, _, e2⟩
    · rw [e1] at e; cases e
    · rw [e2, e0]; simp
  rw [ctl2]
  generalize cellE E = R at *
  obtain ⟨p1, p2⟩ := R
  dsimp only at *
  by_cases hp : p1 = 0
  · subst hp
    have hb0 : ((0 : Int) == 0) = true := rfl
    rw [if_pos rfl]
    have HK := Lib.hid (hK rfl)
    have H1 := Lib.hid H1
    clear hF hK HE
    have HA := fun W T' (h' : Eg W A T' ({ p2 with F := E.F.dropLast })) => after_calls h' (0) i64_0
    generalize after (0, ({ p2 with F := E.F.dropLast })) = S at HA ⊢
    obtain ⟨⟨s0, s1, s2⟩, E'⟩ := S
    have HA := Lib.hid HA
    have HH := Lib.hid hb
    clear h h0 hb
    go_enter Tryz.func83, Tryz.ntmps83
    go_wp2_with fail
    refine (H1.out).mono ?_
    rintro e w2 ⟨rfl, T2, h2, t2⟩
    have c5 := h2.cs.c5
    have H2 := Lib.hid (h2.fpop 2)
    have HP := Lib.hid t2
    clear h2 t2 H1
    go_wp2_with fail
    refine (H2.out).mono ?_
    rintro e w3 ⟨sB, sn, sc, rfl, T3, h3, t3⟩
    rw [HK.out] at h3
    have HQ := Lib.hid (And.intro h3 t3)
    clear h3 t3 H2
    go_wp2_with fail
    refine (HA.out _ _ HQ.out.1).mono ?_
    rintro e w9 ⟨rfl, T9, h9, t9⟩
    obtain ⟨b1, b2⟩ := box_beside HH.out ((HP.out.trans HQ.out.2).trans t9) h9
    obtain ⟨c0, c1, c2, g0, g1, g2⟩ := three_at b1
    have HB := Lib.hid (And.intro b1 b2)
    clear b1 b2
    unfold stV
    dsimp only
    go_wp2_with fail
    obtain ⟨b1, b2⟩ := HB.out
    obtain ⟨k1, k2⟩ := three_set b1 (.int .i64 s0) (.int .i64 s1) (.int .i64 s2)
    obtain ⟨h5, t5⟩ := b2 _ k2
    exact bodyPost_ret (res_st Tryz.results83 rfl k1) rfl ⟨rfl, _, h5, t5⟩
  · have hb0 : (p1 == 0) = false := by simpa using hp
    rw [if_neg hp]
    have H1 := Lib.hid H1
    clear hF hK hp
    have HA := fun W T' (h' : Eg W A T' (p2)) => after_calls h' (p1) HE
    generalize after (p1, (p2)) = S at HA ⊢
    obtain ⟨⟨s0, s1, s2⟩, E'⟩ := S
    have HA := Lib.hid HA
    have HH := Lib.hid hb
    clear h h0 hb
    go_enter Tryz.func83, Tryz.ntmps83
    go_wp2_with fail
    refine (H1.out).mono ?_
    rintro e w2 ⟨rfl, T2, h2, t2⟩
    have HP := Lib.hid (And.intro h2 t2)
    clear h2 t2 H1
    go_wp2_with fail
    refine (HA.out _ _ HP.out.1).mono ?_
    rintro e w9 ⟨rfl, T9, h9, t9⟩
    obtain ⟨b1, b2⟩ := box_beside HH.out (HP.out.2.trans t9) h9
    obtain ⟨c0, c1, c2, g0, g1, g2⟩ := three_at b1
    have HB := Lib.hid (And.intro b1 b2)
    clear b1 b2
    unfold stV
    dsimp only
    go_wp2_with fail
    obtain ⟨b1, b2⟩ := HB.out
    obtain ⟨k1, k2⟩ := three_set b1 (.int .i64 s0) (.int .i64 s1) (.int .i64 s2)
    obtain ⟨h5, t5⟩ := b2 _ k2
    exact bodyPost_ret (res_st Tryz.results83 rfl k1) rfl ⟨rfl, _, h5, t5⟩
set_option maxHeartbeats 2000000 in
theorem leave_calls (h : Eg w A T E) (x : L10.Xi) (hx : I64 x.a) : Calls Tryz.prog 99 #[Pt A.g, insV x] w (Plays A T w (stV (after (if (unloopE E).1 = 0 then (0, { (unloopE E).2 with i := x.a }) else unloopE E)).1) (after (if (unloopE E).1 = 0 then (0, { (unloopE E).2 with i := x.a }) else unloopE E)).2) := by
  obtain ⟨xo, xa, xw⟩ := x
  unfold insV
  dsimp only at *
  have hb := h.far (L14.al_mod w (.cells #[.int .u8 (xo : Int), .int .i64 xa, .int .i64 xw] 61))
  have hz := L14.size_allocI w (.cells #[.int .u8 (xo : Int), .int .i64 xa, .int .i64 xw] 61)
  have h0 := hb.far (L14.al_mod (w.alloc (.cells #[.int .u8 (xo : Int), .int .i64 xa, .int .i64 xw] 61)) zst)
  have H1 := endloop_calls h0
  have HE := unloop_i64 E
  generalize unloopE E = R at *
  obtain ⟨p1, p2⟩ := R
  dsimp only at *
  by_cases hp : p1 = 0
  · subst hp
    have hb0 : ((0 : Int) == 0) = true := rfl
    rw [if_pos rfl]
    have H1 := Lib.hid H1
    have HX := Lib.hid hx
    clear HE
    have HA := fun W T' (h' : Eg W A T' ({ p2 with i := xa })) => after_calls h' (0) i64_0
    generalize after (0, ({ p2 with i := xa })) = S at HA ⊢
    obtain ⟨⟨s0, s1, s2⟩, E'⟩ := S
    have HA := Lib.hid HA
    have HH := Lib.hid hb
    have HW := Lib.hid h
    clear h h0 hb
    go_enter Tryz.func99, Tryz.ntmps99
    go_wp2_with fail
    refine (H1.out).mono ?_
    rintro e w2 ⟨rfl, T2, h2, t2⟩
    obtain ⟨z1, z2⟩ := box_beside HW.out ((Tn.far (L14.al_mod (w.alloc (.cells #[.int .u8 (xo : Int), .int .i64 xa, .int .i64 xw] 61)) zst)).trans t2) h2
    obtain ⟨y0, y1, y2, _⟩ := three_at z1
    have c7 := h2.cs.c7
    have f7 := h2.cs.f7
    have HP := Lib.hid (And.intro (h2.set7 xa HX.out) t2)
    clear h2 t2 H1 z1 z2 y0 y2
    go_wp2_with fail
    refine (HA.out _ _ HP.out.1.1).mono ?_
    rintro e w9 ⟨rfl, T9, h9, t9⟩
    obtain ⟨b1, b2⟩ := box_beside HH.out ((HP.out.2.trans HP.out.1.2).trans t9) h9
    rw [hz] at b1 b2
    obtain ⟨c0, c1, c2, g0, g1, g2⟩ := three_at b1
    have HB := Lib.hid (And.intro b1 b2)
    clear b1 b2
    unfold stV
    dsimp only
    go_wp2_with fail
    obtain ⟨b1, b2⟩ := HB.out
    obtain ⟨k1, k2⟩ := three_set b1 (.int .i64 s0) (.int .i64 s1) (.int .i64 s2)
    obtain ⟨h5, t5⟩ := b2 _ k2
    exact bodyPost_ret (res_st Tryz.results99 rfl k1) rfl ⟨rfl, _, h5, (Tn.far (L14.al_mod w (.cells #[.int .u8 (xo : Int), .int .i64 xa, .int .i64 xw] 61))).trans t5⟩
  · have hb0 : (p1 == 0) = false := by simpa using hp
    rw [if_neg hp]
    have H1 := Lib.hid H1
    clear hp hx
    have HA := fun W T' (h' : Eg W A T' (p2)) => after_calls h' (p1) HE
    generalize after (p1, (p2)) = S at HA ⊢
    obtain ⟨⟨s0, s1, s2⟩, E'⟩ := S
    have HA := Lib.hid HA
    have HH := Lib.hid hb
    clear h h0 hb
    go_enter Tryz.func99, Tryz.ntmps99
    go_wp2_with fail
    refine (H1.out).mono ?_
    rintro e w2 ⟨rfl, T2, h2, t2⟩
    have HP := Lib.hid (And.intro h2 t2)
    clear h2 t2 H1
    go_wp2_with fail
    refine (HA.out _ _ HP.out.1).mono ?_
    rintro e w9 ⟨rfl, T9, h9, t9⟩
    obtain ⟨b1, b2⟩ := box_beside HH.out (HP.out.2.trans t9) h9
    rw [hz] at b1 b2
    obtain ⟨c0, c1, c2, g0, g1, g2⟩ := three_at b1
    have HB := Lib.hid (And.intro b1 b2)
    clear b1 b2
    unfold stV
    dsimp only
    go_wp2_with fail
    obtain ⟨b1, b2⟩ := HB.out
    obtain ⟨k1, k2⟩ := three_set b1 (.int .i64 s0) (.int .i64 s1) (.int .i64 s2)
    obtain ⟨h5, t5⟩ := b2 _ k2
    exact bodyPost_ret (res_st Tryz.results99 rfl k1) rfl ⟨rfl, _, h5, (Tn.far (L14.al_mod w (.cells #[.int .u8 (xo : Int), .int .i64 xa, .int .i64 xw] 61))).trans t5⟩
set_option maxHeartbeats 2000000 in
theorem local_calls (h : Eg w A T E) (x : L10.Xi) : Calls Tryz.prog 103 #[Pt A.g, insV x] w (Plays A T w (stV (after (insE { x with op := 13 } E)).1) (after (insE { x with op := 13 } E)).2) := by
  obtain ⟨xo, xa, xw⟩ := x
  unfold insV
  dsimp only at *
  have hb := h.far (L14.al_mod w (.cells #[.int .u8 (xo : Int), .int .i64 xa, .int .i64 xw] 61))
  have hz := L14.size_allocI w (.cells #[.int .u8 (xo : Int), .int .i64 xa, .int .i64 xw] 61)
  have h0 := hb.far (L14.al_mod (w.alloc (.cells #[.int .u8 (xo : Int), .int .i64 xa, .int .i64 xw] 61)) zst)
  have hDy := (Mod.refl [] ((w.alloc (.cells #[.int .u8 (xo : Int), .int .i64 xa, .int .i64 xw] 61)).alloc zst)).drew
  have H1 := (h0.far hDy).flocal xa
  have c5 := h0.cs.c5
  have cx : ((w.alloc (.cells #[.int .u8 (xo : Int), .int .i64 xa, .int .i64 xw] 61)).alloc zst).cell? ⟨w.heap.size, 1, none⟩ = some (.int .i64 xa) := (L14.al_mod _ zst).cell (x := ⟨w.heap.size, 1, none⟩) (by simp) (L14.cell_eq (MapKept.heap_alloc w _).1 1)
  cases hl : L14.localL xa E.F with
  | none =>
    rw [show insE ⟨13, xa, xw⟩ E = (-6, E) by unfold insE; simp [hl]]
    rw [hl] at H1
    unfold L14.orE at H1
    dsimp only [Option.getD, Option.isSome] at H1
    rw [if_neg (by decide)] at H1
    have H1 := Lib.hid H1
    have H3 := Lib.hid h0
    clear hl
    have HA := fun W T' (h' : Eg W A T' (E)) => after_calls h' (-6) (i64_of_small (by omega))
    generalize after (-6, (E)) = S at HA ⊢
    obtain ⟨⟨s0, s1, s2⟩, E'⟩ := S
    have HA := Lib.hid HA
    have HH := Lib.hid hb
    clear h h0 hb
    go_enter Tryz.func103, Tryz.ntmps103
    go_wp2_with fail
    go_region_held3 (fun W => W.cell? ⟨A.g, 5, none⟩ = some (Pt A.f) ∧ W.cell? ⟨w.heap.size, 1, none⟩ = some (.int .i64 xa)) (first | with_reducible exact ⟨hDy.cell (x := ⟨A.g, 5, none⟩) (by simp) c5, hDy.cell (x := ⟨w.heap.size, 1, none⟩) (by simp) cx⟩ | with_reducible exact ⟨k2.cell (x := ⟨A.g, 5, none⟩) (by simp) (hDy.cell (x := ⟨A.g, 5, none⟩) (by simp) c5), k2.cell (x := ⟨w.heap.size, 1, none⟩) (by simp) (hDy.cell (x := ⟨w.heap.size, 1, none⟩) (by simp) cx)⟩ | fail)
      (first | ((with_reducible refine (H1.out).mono ?_); rintro e w2 ⟨rfl, k2⟩) | fail)
    have HP := Lib.hid (hDy.trans k2)
    clear k2 H1 hDy c5 cx
    go_wp2_with fail
    refine (HA.out _ T (H3.out.far HP.out)).mono ?_
    rintro e w9 ⟨rfl, T9, h9, t9⟩
    obtain ⟨b1, b2⟩ := box_beside HH.out ((Tn.far HP.out).trans t9) h9
    rw [hz] at b1 b2
    obtain ⟨c0, c1, c2, g0, g1, g2⟩ := three_at b1
    have HB := Lib.hid (And.intro b1 b2)
    clear b1 b2
    unfold stV
    dsimp only
    go_wp2_with fail
    obtain ⟨b1, b2⟩ := HB.out
    obtain ⟨k1, k2⟩ := three_set b1 (.int .i64 s0) (.int .i64 s1) (.int .i64 s2)
    obtain ⟨h5, t5⟩ := b2 _ k2
    exact bodyPost_ret (res_st Tryz.results103 rfl k1) rfl ⟨rfl, _, h5, (Tn.far (L14.al_mod w (.cells #[.int .u8 (xo : Int), .int .i64 xa, .int .i64 xw] 61))).trans t5⟩
  | some y =>
    have hy : I64 y := by
      unfold L14.localL at hl
      obtain ⟨j, _, hj⟩ := Option.bind_eq_some_iff.1 hl
      obtain ⟨q, hq, hq2⟩ := Option.bind_eq_some_iff.1 hj
      exact (h.ok.f q (List.mem_of_getElem? hq)).2.2.2.2 y (List.mem_of_getElem? hq2)
    rw [show insE ⟨13, xa, xw⟩ E = pushE y E by unfold insE; simp [hl]]
    rw [hl] at H1
    unfold L14.orE at H1
    dsimp only [Option.getD, Option.isSome] at H1
    rw [if_pos rfl] at H1
    have H1 := Lib.hid H1
    have H2 := fun W (m : Mod [] ((w.alloc (.cells #[.int .u8 (xo : Int), .int .i64 xa, .int .i64 xw] 61)).alloc zst) W) => epush_calls (h0.far m) y hy
    have HE := push_i64 y E
    generalize pushE y E = R at *
    obtain ⟨p1, p2⟩ := R
    dsimp only at *
    have H2 := Lib.hid H2
    clear hl hy
    by_cases hp : p1 = 0
    · have hb0 : (p1 == 0) = true := by simpa using hp
      have hb1 : (p1 != 0) = false := by simpa using hp
      clear hp
      have HA := fun W T' (h' : Eg W A T' (p2)) => after_calls h' (p1) HE
      generalize after (p1, (p2)) = S at HA ⊢
      obtain ⟨⟨s0, s1, s2⟩, E'⟩ := S
      have HA := Lib.hid HA
      have HH := Lib.hid hb
      clear h h0 hb
      go_enter Tryz.func103, Tryz.ntmps103
      go_wp2_with fail
      go_region_held3 (fun W => W.cell? ⟨A.g, 5, none⟩ = some (Pt A.f) ∧ W.cell? ⟨w.heap.size, 1, none⟩ = some (.int .i64 xa)) (first | with_reducible exact ⟨hDy.cell (x := ⟨A.g, 5, none⟩) (by simp) c5, hDy.cell (x := ⟨w.heap.size, 1, none⟩) (by simp) cx⟩ | with_reducible exact ⟨k2.cell (x := ⟨A.g, 5, none⟩) (by simp) (hDy.cell (x := ⟨A.g, 5, none⟩) (by simp) c5), k2.cell (x := ⟨w.heap.size, 1, none⟩) (by simp) (hDy.cell (x := ⟨w.heap.size, 1, none⟩) (by simp) cx)⟩ | fail)
        (first | ((with_reducible refine (H1.out).mono ?_); rintro e w2 ⟨rfl, k2⟩) | fail)
      have HP := Lib.hid (hDy.trans k2)
      clear k2 H1 hDy c5 cx
      go_wp2_with fail
      refine (H2.out _ HP.out).mono ?_
      rintro e w3 ⟨rfl, T3, h3, t3⟩
      have HQ := Lib.hid (And.intro h3 t3)
      clear h3 t3 H2
      go_wp2_with fail
      refine (HA.out _ _ HQ.out.1).mono ?_
      rintro e w9 ⟨rfl, T9, h9, t9⟩
      obtain ⟨b1, b2⟩ := box_beside HH.out (((Tn.far HP.out).trans HQ.out.2).trans t9) h9
      rw [hz] at b1 b2
      obtain ⟨c0, c1, c2, g0, g1, g2⟩ := three_at b1
      have HB := Lib.hid (And.intro b1 b2)
      clear b1 b2
      unfold stV
      dsimp only
      go_wp2_with fail
      obtain ⟨b1, b2⟩ := HB.out
      obtain ⟨k1, k2⟩ := three_set b1 (.int .i64 s0) (.int .i64 s1) (.int .i64 s2)
      obtain ⟨h5, t5⟩ := b2 _ k2
      exact bodyPost_ret (res_st Tryz.results103 rfl k1) rfl ⟨rfl, _, h5, (Tn.far (L14.al_mod w (.cells #[.int .u8 (xo : Int), .int .i64 xa, .int .i64 xw] 61))).trans t5⟩
    · have hb0 : (p1 == 0) = false := by simpa using hp
      have hb1 : (p1 != 0) = true := by simpa using hp
      clear hp
      have HA := fun W T' (h' : Eg W A T' (p2)) => after_calls h' (p1) HE
      generalize after (p1, (p2)) = S at HA ⊢
      obtain ⟨⟨s0, s1, s2⟩, E'⟩ := S
      have HA := Lib.hid HA
      have HH := Lib.hid hb
      clear h h0 hb
      go_enter Tryz.func103, Tryz.ntmps103
      go_wp2_with fail
      go_region_held3 (fun W => W.cell? ⟨A.g, 5, none⟩ = some (Pt A.f) ∧ W.cell? ⟨w.heap.size, 1, none⟩ = some (.int .i64 xa)) (first | with_reducible exact ⟨hDy.cell (x := ⟨A.g, 5, none⟩) (by simp) c5, hDy.cell (x := ⟨w.heap.size, 1, none⟩) (by simp) cx⟩ | with_reducible exact ⟨k2.cell (x := ⟨A.g, 5, none⟩) (by simp) (hDy.cell (x := ⟨A.g, 5, none⟩) (by simp) c5), k2.cell (x := ⟨w.heap.size, 1, none⟩) (by simp) (hDy.cell (x := ⟨w.heap.size, 1, none⟩) (by simp) cx)⟩ | fail)
        (first | ((with_reducible refine (H1.out).mono ?_); rintro e w2 ⟨rfl, k2⟩) | fail)
      have HP := Lib.hid (hDy.trans k2)
      clear k2 H1 hDy c5 cx
      go_wp2_with fail
      refine (H2.out _ HP.out).mono ?_
      rintro e w3 ⟨rfl, T3, h3, t3⟩
      have HQ := Lib.hid (And.intro h3 t3)
      clear h3 t3 H2
      go_wp2_with fail
      refine (HA.out _ _ HQ.out.1).mono ?_
      rintro e w9 ⟨rfl, T9, h9, t9⟩
      obtain ⟨b1, b2⟩ := box_beside HH.out (((Tn.far HP.out).trans HQ.out.2).trans t9) h9
      rw [hz] at b1 b2
      obtain ⟨c0, c1, c2, g0, g1, g2⟩ := three_at b1
      have HB := Lib.hid (And.intro b1 b2)
      clear b1 b2
      unfold stV
      dsimp only
      go_wp2_with fail
      obtain ⟨b1, b2⟩ := HB.out
      obtain ⟨k1, k2⟩ := three_set b1 (.int .i64 s0) (.int .i64 s1) (.int .i64 s2)
      obtain ⟨h5, t5⟩ := b2 _ k2
      exact bodyPost_ret (res_st Tryz.results103 rfl k1) rfl ⟨rfl, _, h5, (Tn.far (L14.al_mod w (.cells #[.int .u8 (xo : Int), .int .i64 xa, .int .i64 xw] 61))).trans t5⟩
end
end Go.Proofs.YtifnkmddinoneaaGreatDoor
namespace Go.Proofs.YtifnkmddinoneaaGreatDoor
open Go.RowKit
set_option linter.unusedVariables false
section
variable {w w' : World} {A : Ag} {E : Es} {T : List Nat}
set_option maxHeartbeats 1000000 in
theorem jump_calls (h : Eg w A T E) (x : L10.Xi) (hx : I64 x.a) : Calls Tryz.prog 93 #[Pt A.g, insV x] w (Plays A T w (stV (after (0, { E with i := x.a })).1) (after (0, { E with i := x.a })).2) := by
  obtain ⟨xo, xa, xw⟩ := x
  unfold insV
  dsimp only at hx ⊢
  have hb := h.far (L14.al_mod w (.cells #[.int .u8 (xo : Int), .int .i64 xa, .int .i64 xw] 61))
  have hz := L14.size_allocI w (.cells #[.int .u8 (xo : Int), .int .i64 xa, .int .i64 xw] 61)
  have c7 := h.cs.c7
  have f7 := h.cs.f7
  have lg : A.g < w.heap.size := World.block_lt_of_cell? _ _ c7
  have HH := Lib.hid (And.intro h hx)
  unfold after
  rw [if_pos rfl]
  dsimp only
  clear h hb hx
  go_enter Tryz.func93, Tryz.ntmps93
  go_wp2_with fail
  obtain ⟨hX, tX⟩ := HH.out.1.set7 xa HH.out.2
  have sX : (w.setCell ⟨A.g, 7, none⟩ (.int .i64 xa)).heap.size = w.heap.size := by simp [World.setCell]
  generalize (w.setCell ⟨A.g, 7, none⟩ (.int .i64 xa)) = X at *
  have hXb := hX.far (L14.al_mod X (.cells #[.int .u8 (xo : Int), .int .i64 xa, .int .i64 xw] 61))
  have hz : (X.alloc (.cells #[.int .u8 (xo : Int), .int .i64 xa, .int .i64 xw] 61)).heap.size = w.heap.size + 1 := by rw [L14.size_allocI, sX]
  have HX := Lib.hid (And.intro hXb tX)
  clear hX tX hXb c7 f7 lg
  refine (ran_calls _).mono ?_
  rintro e w2 ⟨rfl, k2⟩
  have h3 := (HX.out.1.far (L14.al_mod _ zst)).far k2
  obtain ⟨b1, b2⟩ := box_beside HX.out.1 (Tn.far k2) h3
  rw [hz] at b1 b2
  obtain ⟨c0, c1, c2, g0, g1, g2⟩ := three_at b1
  have HB := Lib.hid (And.intro b1 b2)
  clear b1 b2 k2 h3
  unfold stV ranS
  dsimp only
  go_wp2_with fail
  obtain ⟨b1, b2⟩ := HB.out
  obtain ⟨k1, k2⟩ := three_set b1 (.int .i64 1) (.int .i64 0) (.int .i64 0)
  obtain ⟨h5, t5⟩ := b2 _ k2
  exact bodyPost_ret (res_st Tryz.results93 rfl k1) rfl ⟨rfl, _, h5, (HX.out.2.trans (Tn.far (L14.al_mod X _))).trans t5⟩
set_option maxHeartbeats 1000000 in
theorem exit_calls (h : Eg w A T E) (x : L10.Xi) : Calls Tryz.prog 105 #[Pt A.g, insV x] w (Plays A T w (stV (after (0, { E with F := L14.popL 4 E.F, d := 0, i := 0 })).1) (after (0, { E with F := L14.popL 4 E.F, d := 0, i := 0 })).2) := by
  obtain ⟨xo, xa, xw⟩ := x
  unfold insV
  dsimp only
  have hb := h.far (L14.al_mod w (.cells #[.int .u8 (xo : Int), .int .i64 xa, .int .i64 xw] 61))
  have hz := L14.size_allocI w (.cells #[.int .u8 (xo : Int), .int .i64 xa, .int .i64 xw] 61)
  have h0 := hb.far (L14.al_mod _ zst)
  have c5 := h0.cs.c5
  have H1 := Lib.hid (h0.fpop 4)
  have HH := Lib.hid hb
  unfold after
  rw [if_pos rfl]
  dsimp only
  clear h hb h0
  go_enter Tryz.func105, Tryz.ntmps105
  go_wp2_with fail
  refine (H1.out).mono ?_
  rintro e w1 ⟨sB, sn, sc, rfl, T1, h1, t1⟩
  have c6 := h1.cs.c6
  have c7 := h1.cs.c7
  have f6 := h1.cs.f6
  have f7 := h1.cs.f7
  have HP := Lib.hid (And.intro (h1.place 0 0 i64_0 i64_0) t1)
  clear h1 t1 H1 c5
  go_wp2_with fail
  refine (ran_calls _).mono ?_
  rintro e w2 ⟨rfl, k2⟩
  obtain ⟨b1, b2⟩ := box_beside HH.out ((HP.out.2.trans HP.out.1.2).trans (Tn.far k2)) (HP.out.1.1.far k2)
  rw [hz] at b1 b2
  obtain ⟨c0, c1, c2, g0, g1, g2⟩ := three_at b1
  have HB := Lib.hid (And.intro b1 b2)
  clear b1 b2 k2
  unfold stV ranS
  dsimp only
  go_wp2_with fail
  obtain ⟨b1, b2⟩ := HB.out
  obtain ⟨k1, k2⟩ := three_set b1 (.int .i64 1) (.int .i64 0) (.int .i64 0)
  obtain ⟨h5, t5⟩ := b2 _ k2
  exact bodyPost_ret (res_st Tryz.results105 rfl k1) rfl ⟨rfl, _, h5, (Tn.far (L14.al_mod w _)).trans t5⟩
def DoQ (A : Ag) (C : List Int) (μ : Mu) (n : Int) (Q : Int → List Int → Mu → Prop) : Prop := ∀ (E : Es) (W : World) (T : List Nat), E.C = C → E.μ = μ → Eg W A T E → Calls Tryz.prog 110 #[Pt A.a.s, .int .i64 n] W fun e w' => ∃ er C' μ', Q er C' μ' ∧ I64 er ∧ e = .returned (.int .i64 er) ∧ ∃ T', Eg w' A T' { E with C := C', μ := μ' } ∧ Tn T T' W w'
theorem call_i64 (n : Int) (E : Es) : I64 (callE n E).1 := i64_of_small (by unfold callE; split; (split <;> (dsimp only; omega)); (dsimp only; omega))
theorem does_i64 (x n : Int) (E : Es) : I64 (doesE x n E).1 := i64_of_small (by unfold doesE; split; (split; (dsimp only; omega); (split <;> (dsimp only; omega))); (dsimp only; omega))
theorem forward_i64 (n : Int) (E : Es) : I64 (forwardE n E).1 := i64_of_small (by unfold forwardE; split; (dsimp only; omega); (split <;> (dsimp only; omega)))
set_option maxHeartbeats 2000000 in
set_option maxRecDepth 100000 in
theorem exec_colon (h : Eg w A T E) (n : Int) {x : Wd} (hx : E.word n = some x) (hk : x.k = 5) : Calls Tryz.prog 55 #[Pt A.g, .int .i64 n] w (Plays A T w (stV (after (callE x.n E)).1) (after (callE x.n E)).2) := by
  have h0 := h.far (L14.al_mod w zst)
  have H1 := word_yes h0 n hx
  have hw := h.ok.w x (by unfold Es.word at hx; split at hx; exact List.mem_of_getElem? hx; cases hx)
  obtain ⟨xk, xn, xw⟩ := x
  obtain ⟨_, _, hn, hW, _⟩ := hw
  dsimp only at hk hn hW
  subst hk
  unfold wdV at H1
  dsimp only at H1 ⊢
  have H2 := fun W (m : Mod [] (w.alloc zst) W) => call_calls (h0.far m) xn
  have HE : I64 (callE xn E).1 := call_i64 _ _
  generalize callE xn E = R at H2 HE ⊢
  obtain ⟨p1, p2⟩ := R
  dsimp only at H2 HE
  have HA := fun W T' (h' : Eg W A T' p2) => after_calls h' p1 HE
  generalize after (p1, p2) = S at HA ⊢
  obtain ⟨⟨s0, s1, s2⟩, E'⟩ := S
  have HA := Lib.hid HA
  have H1 := Lib.hid H1
  have H2 := Lib.hid H2
  have HH := Lib.hid h
  clear h h0 HE hn hW hx
  go_enter Tryz.func55, Tryz.ntmps55
  go_wp2_with fail
  refine (H1.out).mono ?_
  rintro e w1 ⟨rfl, k1⟩
  have HK := Lib.hid k1
  clear k1 H1
  go_wp2_with fail
  refine (H2.out _ (HK.out.trans (L14.al_mod _ _))).mono ?_
  rintro e w2 ⟨rfl, T2, h2, t2⟩
  have HA2 := Lib.hid (HA.out w2 T2 h2)
  have HT := Lib.hid ((Tn.far (T := T) (HK.out.trans (L14.al_mod _ _))).trans t2)
  clear h2 t2 H2 HA
  go_wp2_with fail
  refine (HA2.out).mono ?_
  rintro e w3 ⟨rfl, T3, h3, t3⟩
  obtain ⟨b1, b2⟩ := box_beside HH.out (HT.out.trans t3) h3
  obtain ⟨c0, c1, c2, g0, g1, g2⟩ := three_at b1
  have HB := Lib.hid (And.intro b1 b2)
  clear b1 b2
  unfold stV
  dsimp only
  go_wp2_with fail
  obtain ⟨b1, b2⟩ := HB.out
  obtain ⟨k1, k2⟩ := three_set b1 (.int .i64 s0) (.int .i64 s1) (.int .i64 s2)
  obtain ⟨h5, t5⟩ := b2 _ k2
  exact bodyPost_ret (res_st Tryz.results55 rfl k1) rfl ⟨rfl, _, h5, t5⟩
set_option maxHeartbeats 2000000 in
set_option maxRecDepth 100000 in
theorem exec_does (h : Eg w A T E) (n : Int) {x : Wd} (hx : E.word n = some x) (hk : x.k = 7) : Calls Tryz.prog 55 #[Pt A.g, .int .i64 n] w (Plays A T w (stV (after (doesE x.w x.n E)).1) (after (doesE x.w x.n E)).2) := by
  have h0 := h.far (L14.al_mod w zst)
  have H1 := word_yes h0 n hx
  have hw := h.ok.w x (by unfold Es.word at hx; split at hx; exact List.mem_of_getElem? hx; cases hx)
  obtain ⟨xk, xn, xw⟩ := x
  obtain ⟨_, _, hn, hW, _⟩ := hw
  dsimp only at hk hn hW
  subst hk
  unfold wdV at H1
  dsimp only at H1 ⊢
  have H2 := fun W (m : Mod [] (w.alloc zst) W) => callwith_calls (h0.far m) xw xn hW
  have HE : I64 (doesE xw xn E).1 := does_i64 _ _ _
  generalize doesE xw xn E = R at H2 HE ⊢
  obtain ⟨p1, p2⟩ := R
  dsimp only at H2 HE
  have HA := fun W T' (h' : Eg W A T' p2) => after_calls h' p1 HE
  generalize after (p1, p2) = S at HA ⊢
  obtain ⟨⟨s0, s1, s2⟩, E'⟩ := S
  have HA := Lib.hid HA
  have H1 := Lib.hid H1
  have H2 := Lib.hid H2
  have HH := Lib.hid h
  clear h h0 HE hn hW hx
  go_enter Tryz.func55, Tryz.ntmps55
  go_wp2_with fail
  refine (H1.out).mono ?_
  rintro e w1 ⟨rfl, k1⟩
  have HK := Lib.hid k1
  clear k1 H1
  go_wp2_with fail
  refine (H2.out _ (HK.out.trans (L14.al_mod _ _))).mono ?_
  rintro e w2 ⟨rfl, T2, h2, t2⟩
  have HA2 := Lib.hid (HA.out w2 T2 h2)
  have HT := Lib.hid ((Tn.far (T := T) (HK.out.trans (L14.al_mod _ _))).trans t2)
  clear h2 t2 H2 HA
  go_wp2_with fail
  refine (HA2.out).mono ?_
  rintro e w3 ⟨rfl, T3, h3, t3⟩
  obtain ⟨b1, b2⟩ := box_beside HH.out (HT.out.trans t3) h3
  obtain ⟨c0, c1, c2, g0, g1, g2⟩ := three_at b1
  have HB := Lib.hid (And.intro b1 b2)
  clear b1 b2
  unfold stV
  dsimp only
  go_wp2_with fail
  obtain ⟨b1, b2⟩ := HB.out
  obtain ⟨k1, k2⟩ := three_set b1 (.int .i64 s0) (.int .i64 s1) (.int .i64 s2)
  obtain ⟨h5, t5⟩ := b2 _ k2
  exact bodyPost_ret (res_st Tryz.results55 rfl k1) rfl ⟨rfl, _, h5, t5⟩
set_option maxHeartbeats 2000000 in
set_option maxRecDepth 100000 in
theorem exec_defer (h : Eg w A T E) (n : Int) {x : Wd} (hx : E.word n = some x) (hk : x.k = 8) : Calls Tryz.prog 55 #[Pt A.g, .int .i64 n] w (Plays A T w (stV (after (forwardE x.n E)).1) (after (forwardE x.n E)).2) := by
  have h0 := h.far (L14.al_mod w zst)
  have H1 := word_yes h0 n hx
  have hw := h.ok.w x (by unfold Es.word at hx; split at hx; exact List.mem_of_getElem? hx; cases hx)
  obtain ⟨xk, xn, xw⟩ := x
  obtain ⟨_, _, hn, hW, _⟩ := hw
  dsimp only at hk hn hW
  subst hk
  unfold wdV at H1
  dsimp only at H1 ⊢
  have H2 := fun W (m : Mod [] (w.alloc zst) W) => forward_calls (h0.far m) xn
  have HE : I64 (forwardE xn E).1 := forward_i64 _ _
  generalize forwardE xn E = R at H2 HE ⊢
  obtain ⟨p1, p2⟩ := R
  dsimp only at H2 HE
  have HA := fun W T' (h' : Eg W A T' p2) => after_calls h' p1 HE
  generalize after (p1, p2) = S at HA ⊢
  obtain ⟨⟨s0, s1, s2⟩, E'⟩ := S
  have HA := Lib.hid HA
  have H1 := Lib.hid H1
  have H2 := Lib.hid H2
  have HH := Lib.hid h
  clear h h0 HE hn hW hx
  go_enter Tryz.func55, Tryz.ntmps55
  go_wp2_with fail
  refine (H1.out).mono ?_
  rintro e w1 ⟨rfl, k1⟩
  have HK := Lib.hid k1
  clear k1 H1
  go_wp2_with fail
  refine (H2.out _ (HK.out.trans (L14.al_mod _ _))).mono ?_
  rintro e w2 ⟨rfl, T2, h2, t2⟩
  have HA2 := Lib.hid (HA.out w2 T2 h2)
  have HT := Lib.hid ((Tn.far (T := T) (HK.out.trans (L14.al_mod _ _))).trans t2)
  clear h2 t2 H2 HA
  go_wp2_with fail
  refine (HA2.out).mono ?_
  rintro e w3 ⟨rfl, T3, h3, t3⟩
  obtain ⟨b1, b2⟩ := box_beside HH.out (HT.out.trans t3) h3
  obtain ⟨c0, c1, c2, g0, g1, g2⟩ := three_at b1
  have HB := Lib.hid (And.intro b1 b2)
  clear b1 b2
  unfold stV
  dsimp only
  go_wp2_with fail
  obtain ⟨b1, b2⟩ := HB.out
  obtain ⟨k1, k2⟩ := three_set b1 (.int .i64 s0) (.int .i64 s1) (.int .i64 s2)
  obtain ⟨h5, t5⟩ := b2 _ k2
  exact bodyPost_ret (res_st Tryz.results55 rfl k1) rfl ⟨rfl, _, h5, t5⟩
set_option maxHeartbeats 2000000 in
set_option maxRecDepth 100000 in
theorem exec_cell (h : Eg w A T E) (n : Int) {x : Wd} (hx : E.word n = some x) (hk : x.k = 6) : Calls Tryz.prog 55 #[Pt A.g, .int .i64 n] w (Plays A T w (stV (after (pushE x.w E)).1) (after (pushE x.w E)).2) := by
  have h0 := h.far (L14.al_mod w zst)
  have H1 := word_yes h0 n hx
  have hw := h.ok.w x (by unfold Es.word at hx; split at hx; exact List.mem_of_getElem? hx; cases hx)
  obtain ⟨xk, xn, xw⟩ := x
  obtain ⟨_, _, hn, hW, _⟩ := hw
  dsimp only at hk hn hW
  subst hk
  unfold wdV at H1
  dsimp only at H1 ⊢
  have H2 := fun W (m : Mod [] (w.alloc zst) W) => epush_calls (h0.far m) xw hW
  have HE : I64 (pushE xw E).1 := push_i64 _ _
  generalize pushE xw E = R at H2 HE ⊢
  obtain ⟨p1, p2⟩ := R
  dsimp only at H2 HE
  have HA := fun W T' (h' : Eg W A T' p2) => after_calls h' p1 HE
  generalize after (p1, p2) = S at HA ⊢
  obtain ⟨⟨s0, s1, s2⟩, E'⟩ := S
  have HA := Lib.hid HA
  have H1 := Lib.hid H1
  have H2 := Lib.hid H2
  have HH := Lib.hid h
  clear h h0 HE hn hW hx
  go_enter Tryz.func55, Tryz.ntmps55
  go_wp2_with fail
  refine (H1.out).mono ?_
  rintro e w1 ⟨rfl, k1⟩
  have HK := Lib.hid k1
  clear k1 H1
  go_wp2_with fail
  refine (H2.out _ (HK.out.trans (L14.al_mod _ _))).mono ?_
  rintro e w2 ⟨rfl, T2, h2, t2⟩
  have HA2 := Lib.hid (HA.out w2 T2 h2)
  have HT := Lib.hid ((Tn.far (T := T) (HK.out.trans (L14.al_mod _ _))).trans t2)
  clear h2 t2 H2 HA
  go_wp2_with fail
  refine (HA2.out).mono ?_
  rintro e w3 ⟨rfl, T3, h3, t3⟩
  obtain ⟨b1, b2⟩ := box_beside HH.out (HT.out.trans t3) h3
  obtain ⟨c0, c1, c2, g0, g1, g2⟩ := three_at b1
  have HB := Lib.hid (And.intro b1 b2)
  clear b1 b2
  unfold stV
  dsimp only
  go_wp2_with fail
  obtain ⟨b1, b2⟩ := HB.out
  obtain ⟨k1, k2⟩ := three_set b1 (.int .i64 s0) (.int .i64 s1) (.int .i64 s2)
  obtain ⟨h5, t5⟩ := b2 _ k2
  exact bodyPost_ret (res_st Tryz.results55 rfl k1) rfl ⟨rfl, _, h5, t5⟩
set_option maxHeartbeats 2000000 in
set_option maxRecDepth 100000 in
theorem exec_value (h : Eg w A T E) (n : Int) {x : Wd} (hx : E.word n = some x) (hk : x.k = 9) : Calls Tryz.prog 55 #[Pt A.g, .int .i64 n] w (Plays A T w (stV (after (pushE x.w E)).1) (after (pushE x.w E)).2) := by
  have h0 := h.far (L14.al_mod w zst)
  have H1 := word_yes h0 n hx
  have hw := h.ok.w x (by unfold Es.word at hx; split at hx; exact List.mem_of_getElem? hx; cases hx)
  obtain ⟨xk, xn, xw⟩ := x
  obtain ⟨_, _, hn, hW, _⟩ := hw
  dsimp only at hk hn hW
  subst hk
  unfold wdV at H1
  dsimp only at H1 ⊢
  have H2 := fun W (m : Mod [] (w.alloc zst) W) => epush_calls (h0.far m) xw hW
  have HE : I64 (pushE xw E).1 := push_i64 _ _
  generalize pushE xw E = R at H2 HE ⊢
  obtain ⟨p1, p2⟩ := R
  dsimp only at H2 HE
  have HA := fun W T' (h' : Eg W A T' p2) => after_calls h' p1 HE
  generalize after (p1, p2) = S at HA ⊢
  obtain ⟨⟨s0, s1, s2⟩, E'⟩ := S
  have HA := Lib.hid HA
  have H1 := Lib.hid H1
  have H2 := Lib.hid H2
  have HH := Lib.hid h
  clear h h0 HE hn hW hx
  go_enter Tryz.func55, Tryz.ntmps55
  go_wp2_with fail
  refine (H1.out).mono ?_
  rintro e w1 ⟨rfl, k1⟩
  have HK := Lib.hid k1
  clear k1 H1
  go_wp2_with fail
  refine (H2.out _ (HK.out.trans (L14.al_mod _ _))).mono ?_
  rintro e w2 ⟨rfl, T2, h2, t2⟩
  have HA2 := Lib.hid (HA.out w2 T2 h2)
  have HT := Lib.hid ((Tn.far (T := T) (HK.out.trans (L14.al_mod _ _))).trans t2)
  clear h2 t2 H2 HA
  go_wp2_with fail
  refine (HA2.out).mono ?_
  rintro e w3 ⟨rfl, T3, h3, t3⟩
  obtain ⟨b1, b2⟩ := box_beside HH.out (HT.out.trans t3) h3
  obtain ⟨c0, c1, c2, g0, g1, g2⟩ := three_at b1
  have HB := Lib.hid (And.intro b1 b2)
  clear b1 b2
  unfold stV
  dsimp only
  go_wp2_with fail
  obtain ⟨b1, b2⟩ := HB.out
  obtain ⟨k1, k2⟩ := three_set b1 (.int .i64 s0) (.int .i64 s1) (.int .i64 s2)
  obtain ⟨h5, t5⟩ := b2 _ k2
  exact bodyPost_ret (res_st Tryz.results55 rfl k1) rfl ⟨rfl, _, h5, t5⟩
set_option maxHeartbeats 2000000 in
set_option maxRecDepth 100000 in
theorem exec_flow (h : Eg w A T E) (n : Int) {x : Wd} (hx : E.word n = some x) (hk : x.k = 3) : Calls Tryz.prog 55 #[Pt A.g, .int .i64 n] w (Plays A T w (stV (2, 3, x.n)) E) := by
  have h0 := h.far (L14.al_mod w zst)
  have H1 := word_yes h0 n hx
  have hw := h.ok.w x (by unfold Es.word at hx; split at hx; exact List.mem_of_getElem? hx; cases hx)
  obtain ⟨xk, xn, xw⟩ := x
  obtain ⟨_, _, hn, hW, hct⟩ := hw
  dsimp only at hk hn hW hct
  subst hk
  unfold wdV at H1
  dsimp only at H1 ⊢
  have H1 := Lib.hid H1
  have HH := Lib.hid (And.intro h h0)
  unfold stV
  dsimp only
  clear h h0 hn hW hx hct
  go_enter Tryz.func55, Tryz.ntmps55
  go_wp2_with fail
  refine (H1.out).mono ?_
  rintro e w1 ⟨rfl, k1⟩
  have bk := (k1.block w.heap.size (by rw [L14.size_allocI]; omega) (by simp)).trans (MapKept.heap_alloc w zst).1
  have k2 := L14.al_mod w1 (.cells #[.int .i64 3, .int .i64 xn, .int .i64 xw] TW15)
  have kb := (k2.block w.heap.size (Array.getElem?_eq_some_iff.1 bk).1 (by simp)).trans bk
  obtain ⟨c0, c1, c2, g0, g1, g2⟩ := three_at bk
  have l1 : w.heap.size < w1.heap.size := (Array.getElem?_eq_some_iff.1 bk).1
  have HK := Lib.hid (And.intro k1 kb)
  clear k1 H1 bk k2 kb
  go_wp2_with fail
  obtain ⟨b1, b2⟩ := box_beside HH.out.1 (Tn.far HK.out.1) (HH.out.2.far HK.out.1)
  obtain ⟨k1, k2⟩ := three_set b1 (.int .i64 2) (.int .i64 3) (.int .i64 xn)
  obtain ⟨h5, t5⟩ := b2 _ k2
  have kk := ((L14.al_mod (threeSet w1 w.heap.size (.int .i64 2) (.int .i64 3) (.int .i64 xn)) (.cells #[.int .i64 3, .int .i64 xn, .int .i64 xw] TW15)).block w.heap.size (Array.getElem?_eq_some_iff.1 k1).1 (by simp)).trans k1
  exact bodyPost_ret (res_st Tryz.results55 rfl kk) rfl ⟨rfl, _, h5.far (L14.al_mod _ _), t5.trans (Tn.far (L14.al_mod _ _))⟩
set_option maxHeartbeats 2000000 in
set_option maxRecDepth 100000 in
theorem exec_host (h : Eg w A T E) (n : Int) {x : Wd} (hx : E.word n = some x) (hk : x.k = 4) : Calls Tryz.prog 55 #[Pt A.g, .int .i64 n] w (Plays A T w (stV (2, 4, x.n)) E) := by
  have h0 := h.far (L14.al_mod w zst)
  have H1 := word_yes h0 n hx
  have hw := h.ok.w x (by unfold Es.word at hx; split at hx; exact List.mem_of_getElem? hx; cases hx)
  obtain ⟨xk, xn, xw⟩ := x
  obtain ⟨_, _, hn, hW, hct⟩ := hw
  dsimp only at hk hn hW hct
  subst hk
  unfold wdV at H1
  dsimp only at H1 ⊢
  have H1 := Lib.hid H1
  have HH := Lib.hid (And.intro h h0)
  unfold stV
  dsimp only
  clear h h0 hn hW hx hct
  go_enter Tryz.func55, Tryz.ntmps55
  go_wp2_with fail
  refine (H1.out).mono ?_
  rintro e w1 ⟨rfl, k1⟩
  have bk := (k1.block w.heap.size (by rw [L14.size_allocI]; omega) (by simp)).trans (MapKept.heap_alloc w zst).1
  have k2 := L14.al_mod w1 (.cells #[.int .i64 4, .int .i64 xn, .int .i64 xw] TW15)
  have kb := (k2.block w.heap.size (Array.getElem?_eq_some_iff.1 bk).1 (by simp)).trans bk
  obtain ⟨c0, c1, c2, g0, g1, g2⟩ := three_at bk
  have l1 : w.heap.size < w1.heap.size := (Array.getElem?_eq_some_iff.1 bk).1
  have HK := Lib.hid (And.intro k1 kb)
  clear k1 H1 bk k2 kb
  go_wp2_with fail
  obtain ⟨b1, b2⟩ := box_beside HH.out.1 (Tn.far HK.out.1) (HH.out.2.far HK.out.1)
  obtain ⟨k1, k2⟩ := three_set b1 (.int .i64 2) (.int .i64 4) (.int .i64 xn)
  obtain ⟨h5, t5⟩ := b2 _ k2
  have kk := ((L14.al_mod (threeSet w1 w.heap.size (.int .i64 2) (.int .i64 4) (.int .i64 xn)) (.cells #[.int .i64 4, .int .i64 xn, .int .i64 xw] TW15)).block w.heap.size (Array.getElem?_eq_some_iff.1 k1).1 (by simp)).trans k1
  exact bodyPost_ret (res_st Tryz.results55 rfl kk) rfl ⟨rfl, _, h5.far (L14.al_mod _ _), t5.trans (Tn.far (L14.al_mod _ _))⟩
set_option maxHeartbeats 2000000 in
set_option maxRecDepth 100000 in
theorem exec_prim (h : Eg w A T E) (n : Int) {x : Wd} (hx : E.word n = some x) (hk : x.k = 1) (Q : Int → List Int → Mu → Prop) (hQ : DoQ A E.C E.μ x.n Q) : Calls Tryz.prog 55 #[Pt A.g, .int .i64 n] w fun e w' => ∃ r : Int × List Int × Mu, Q r.1 r.2.1 r.2.2 ∧ Plays A T w (stV (after (r.1, { E with C := r.2.1, μ := r.2.2 })).1) (after (r.1, { E with C := r.2.1, μ := r.2.2 })).2 e w' := by
  have h0 := h.far (L14.al_mod w zst)
  have H1 := word_yes h0 n hx
  have hw := h.ok.w x (by unfold Es.word at hx; split at hx; exact List.mem_of_getElem? hx; cases hx)
  obtain ⟨xk, xn, xw⟩ := x
  obtain ⟨_, _, hn, hW, hct⟩ := hw
  dsimp only at hk hn hW hct
  subst hk
  unfold wdV at H1
  dsimp only at H1 ⊢
  have H2 := fun W (m : Mod [] (w.alloc zst) W) => hQ E W T rfl rfl (h0.far m)
  have c3 := h0.cs.c3
  have H1 := Lib.hid H1
  have H2 := Lib.hid H2
  have HH := Lib.hid h
  clear h h0 hn hW hx hct hQ
  go_enter Tryz.func55, Tryz.ntmps55
  go_wp2_with fail
  refine (H1.out).mono ?_
  rintro e w1 ⟨rfl, k1⟩
  have WB := (MapKept.heap_alloc w1 (.cells #[.int .i64 1, .int .i64 xn, .int .i64 xw] TW15)).1
  have kX := k1.trans (L14.al_mod w1 (.cells #[.int .i64 1, .int .i64 xn, .int .i64 xw] TW15))
  have np : w1.heap.size ∉ T := fun hx => by have h1 := HH.out.tl _ hx; have h2 := k1.size; rw [L14.size_allocI] at h2; omega
  have lp := (Array.getElem?_eq_some_iff.1 WB).1
  have ne : w1.heap.size ≠ w.heap.size := by have h2 := k1.size; rw [L14.size_allocI] at h2; omega
  have c3x := kX.cell (x := ⟨A.g, 3, none⟩) (by simp) c3
  have lg : A.g < w1.heap.size := World.block_lt_of_cell? _ _ (k1.cell (x := ⟨A.g, 3, none⟩) (by simp) c3)
  have c3y := k1.cell (x := ⟨A.g, 3, none⟩) (by simp) c3
  clear H1 c3 k1
  go_wp2_with fail
  clear lg c3y
  generalize (w1.alloc (.cells #[.int .i64 1, .int .i64 xn, .int .i64 xw] TW15)) = X at *
  generalize w1.heap.size = p at *
  have d1 : X.cell? ⟨p, 1, none⟩ = some (.int .i64 xn) := (three_at WB).2.1
  have hD := (Mod.refl [] X).drew
  have H2x := Lib.hid (H2.out X.drew (kX.trans hD))
  have ng : A.g ≠ w.heap.size := fun e => by have h1 := World.block_lt_of_cell? _ _ HH.out.cs.c3; simp only at h1; omega
  have hne1 : p ∉ [w.heap.size] := by simpa using ne
  have hne2 : A.g ∉ [w.heap.size] := by simpa using ng
  have HKX := Lib.hid kX
  clear H2 WB kX
  go_region_held3 (fun W => W.cell? ⟨A.g, 3, none⟩ = some (Pt A.a.s) ∧ W.cell? ⟨p, 1, none⟩ = some (.int .i64 xn)) (first | with_reducible exact ⟨hD.cell (x := ⟨A.g, 3, none⟩) (by simp) c3x, hD.cell (x := ⟨p, 1, none⟩) (by simp) d1⟩ | with_reducible exact ⟨e2, d2⟩ | with_reducible exact ⟨e3, d3⟩ | with_reducible exact ⟨(three_set b1 (.int .i64 s0) (.int .i64 s1) (.int .i64 s2)).2.cell (x := ⟨A.g, 3, none⟩) hne2 e3, (three_set b1 (.int .i64 s0) (.int .i64 s1) (.int .i64 s2)).2.cell (x := ⟨p, 1, none⟩) hne1 d3⟩ | fail)
    (first | ((with_reducible refine (H2x.out).mono ?_); rintro e w2 ⟨er, C', μ', hq, hI, rfl, T2, h2, t2⟩; have np2 := (t2.keeps np (Nat.lt_of_lt_of_le lp hD.size)).2.1; have e2 := h2.cs.c3; have d2 := t2.m.cell (x := ⟨p, 1, none⟩) np (hD.cell (x := ⟨p, 1, none⟩) (by simp) d1); have ha := after_calls h2 er hI; obtain ⟨S, hS⟩ : ∃ S, S = after (er, ({ E with C := C', μ := μ' } : Es)) := ⟨_, rfl⟩; rw [← hS] at ha; have HS := Lib.hid hS; clear hS; obtain ⟨⟨s0, s1, s2⟩, E'⟩ := S; unfold stV at ha; dsimp only at ha) | ((with_reducible refine ha.mono ?_); rintro e w3 ⟨rfl, T3, h3, t3⟩; have e3 := h3.cs.c3; have d3 := t3.m.cell (x := ⟨p, 1, none⟩) np2 d2; obtain ⟨b1, b2⟩ := box_beside HH.out (((Tn.far (HKX.out.trans hD)).trans t2).trans t3) h3; obtain ⟨c0, c1, c2, g0, g1, g2⟩ := three_at b1) | fail)
  have HB := Lib.hid (And.intro b1 (And.intro b2 hq))
  clear b1 b2 h3 t3 h2 t2 ha e2 e3 d2 d3 np2 hD hne1 hne2 c0 c1 c2 g0 g1 g2 hq hI H2x d1 c3x np lp ne ng
  go_wp2_with fail
  obtain ⟨b1, b2, hq⟩ := HB.out
  obtain ⟨k1, k2⟩ := three_set b1 (.int .i64 s0) (.int .i64 s1) (.int .i64 s2)
  obtain ⟨h5, t5⟩ := b2 _ k2
  refine bodyPost_ret (res_st Tryz.results55 rfl k1) rfl ⟨(er, C', μ'), hq, ?_⟩
  show Plays A T w (stV (after (er, ({ E with C := C', μ := μ' } : Es))).1) (after (er, ({ E with C := C', μ := μ' } : Es))).2 _ _
  rw [← HS.out]
  exact ⟨rfl, _, h5, t5⟩
end
end Go.Proofs.YtifnkmddinoneaaGreatDoor
