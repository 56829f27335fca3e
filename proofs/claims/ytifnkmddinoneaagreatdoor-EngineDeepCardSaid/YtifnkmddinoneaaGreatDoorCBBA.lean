/- Layer 15: a step of the engine. Condition: the block is an engine (Eg); of the state's Do what is said. Layer 15: the maps of the engine's own words, and of the instructions. No condition. -/
import Derived.Test.YtifnkmddinoneaaGreatDoorCBAZ
set_option maxRecDepth 100000
namespace Go.Proofs.YtifnkmddinoneaaGreatDoor
open Go.RowKit
set_option linter.unusedVariables false
section
variable {w w' : World} {A : Ag} {E : Es} {T : List Nat}
def instrR (E : Es) (r : Int × List Int × Mu) : Sv × Es := match E.ins with
  | some x => instructE r x { E with i := E.i + 1 }
  | none => throwE (-25) E
def instrP (E : Es) : Option Int := E.ins.bind fun x => if x.op = 2 then primW x.a E else none
set_option maxHeartbeats 4000000 in
set_option maxRecDepth 100000 in
theorem step_next (h : Eg w A T E) (hn : E.nx ≠ 0) (Q : Int → List Int → Mu → Prop) (hQ : ∀ m, primW E.nx E = some m → DoQ A E.C E.μ m Q) : Calls Tryz.prog 31 #[Pt A.g] w (StepsTo A T w (fun r => execE r E.nx { E with nx := 0 }) (primW E.nx E) Q) := by
  have c8 := h.cs.c8
  have f8 := h.cs.f8
  have lg : A.g < w.heap.size := World.block_lt_of_cell? _ _ c8
  obtain ⟨n, en⟩ : ∃ n, n = E.nx := ⟨_, rfl⟩
  rw [← en] at hn c8 hQ ⊢
  have hb0 : (n != 0) = true := by simpa using hn
  have HX := Lib.hid (And.intro h hQ)
  obtain ⟨pr, hpr⟩ : ∃ pr, pr = primW n E := ⟨_, rfl⟩
  rw [← hpr]
  have HPR := Lib.hid hpr
  clear h hQ hn en hpr
  go_enter Tryz.func31, Tryz.ntmps31
  go_wp2_with fail
  obtain ⟨h, hQ⟩ := HX.out
  obtain ⟨hX, tX⟩ := h.set8 0 i64_0
  have sX : (w.setCell ⟨A.g, 8, none⟩ (.int .i64 0)).heap.size = w.heap.size := by simp [World.setCell]
  generalize (w.setCell ⟨A.g, 8, none⟩ (.int .i64 0)) = X at *
  have H1 := Lib.hid (execute_calls (hX.far (L14.al_mod X zst)) n Q hQ)
  have HH := Lib.hid hX
  have HT := Lib.hid tX
  clear hX tX h hQ c8 f8 lg
  refine (H1.out).mono ?_
  rintro e w3 ⟨r, hr, hre, T3, h3, t3⟩
  obtain ⟨S, hS⟩ : ∃ S, S = execE r n { E with nx := 0 } := ⟨_, rfl⟩
  try dsimp only at hre h3
  rw [← hS] at hre h3
  obtain ⟨⟨s0, s1, s2⟩, E'⟩ := S
  unfold stV at hre
  dsimp only at hre h3
  subst hre
  obtain ⟨b1, b2⟩ := box_beside HH.out (t3) h3
  rw [sX] at b1 b2
  obtain ⟨c0, c1, c2, g0, g1, g2⟩ := three_at b1
  have HB := Lib.hid (And.intro b1 (And.intro b2 (And.intro hr hS)))
  clear b1 b2 h3 t3 hr hS
  go_wp2_with fail
  obtain ⟨b1, b2, hr, hS⟩ := HB.out
  obtain ⟨k1, k2⟩ := three_set b1 (.int .i64 s0) (.int .i64 s1) (.int .i64 s2)
  obtain ⟨h5, t5⟩ := b2 _ k2
  refine bodyPost_ret (res_st Tryz.results31 rfl k1) rfl ⟨r, fun hn => hr (by rw [HPR.out] at hn; exact hn), ?_⟩
  try dsimp only
  rw [← hS]
  exact ⟨rfl, _, h5, HT.out.trans t5⟩
set_option maxHeartbeats 4000000 in
set_option maxRecDepth 100000 in
theorem step_wait (h : Eg w A T E) (hn : E.nx = 0) {R : List L14.Fm} {q : L14.Fm} (hF : E.F = R ++ [q]) (hk : q.k = 6 ∨ q.k = 7) : Calls Tryz.prog 31 #[Pt A.g] w (Plays A T w (stV (3, q.k, 0)) E) := by
  have h0 := h.far (L14.al_mod w zst)
  have c5 := h0.cs.c5
  have c6 := h.cs.c6
  have c8 := h.cs.c8
  rw [hn] at c8
  have hb0 : ((0 : Int) != 0) = false := rfl
  have lg : A.g < w.heap.size := World.block_lt_of_cell? _ _ c8
  have H1 := h0.ftop
  have e1 : L14.topV E.F = q := by rw [hF]; exact L14.topV_snoc R q
  have e2 : E.F.getLast?.isSome = true := by rw [hF]; simp
  rw [e1, e2] at H1
  obtain ⟨qk, qa, qb, qx, qy, ql⟩ := q
  dsimp only at hk
  unfold L14.frV at H1
  unfold stV
  dsimp only at H1 ⊢
  have H1 := Lib.hid H1
  have HH := Lib.hid h
  have HH0 := Lib.hid h0
  have HQ := Lib.hid hk
  by_cases hk6 : qk = 6
  · have hb6 : (qk == 6) = true := by simpa using hk6
    clear h h0 hn hF e1 e2 hk6 hk
    go_enter Tryz.func31, Tryz.ntmps31
    go_wp2_with fail
    refine (H1.out).mono ?_
    rintro e w1 ⟨sB, sn, sc, rfl, k1⟩
    have HK := Lib.hid k1
    have bk := (k1.block w.heap.size (by rw [L14.size_allocI]; omega) (by simp)).trans (MapKept.heap_alloc w zst).1
    obtain ⟨c0, c1, c2, g0, g1, g2⟩ := three_at bk
    have l1 : w.heap.size < w1.heap.size := (Array.getElem?_eq_some_iff.1 bk).1
    clear k1 H1 bk
    go_wp2_with fail
    obtain ⟨b1, b2⟩ := box_beside HH.out (Tn.far HK.out) (HH0.out.far HK.out)
    obtain ⟨k1, k2⟩ := three_set b1 (.int .i64 3) (.int .i64 qk) (.int .i64 0)
    obtain ⟨h5, t5⟩ := b2 _ k2
    have kk := ((L14.al_mod (threeSet w1 w.heap.size (.int .i64 3) (.int .i64 qk) (.int .i64 0)) (frB qk qa qb qx qy (.slice sB sn sc))).block w.heap.size (Array.getElem?_eq_some_iff.1 k1).1 (by simp)).trans k1
    exact bodyPost_ret (res_st Tryz.results31 rfl kk) rfl ⟨rfl, _, h5.far (L14.al_mod _ _), t5.trans (Tn.far (L14.al_mod _ _))⟩
  · have hb6 : (qk == 6) = false := by simpa using hk6
    have h7 : qk = 7 := by omega
    have hb7 : (qk == 7) = true := by simpa using h7
    clear h h0 hn hF e1 e2 hk6 hk h7
    go_enter Tryz.func31, Tryz.ntmps31
    go_wp2_with fail
    refine (H1.out).mono ?_
    rintro e w1 ⟨sB, sn, sc, rfl, k1⟩
    have HK := Lib.hid k1
    have bk := (k1.block w.heap.size (by rw [L14.size_allocI]; omega) (by simp)).trans (MapKept.heap_alloc w zst).1
    obtain ⟨c0, c1, c2, g0, g1, g2⟩ := three_at bk
    have l1 : w.heap.size < w1.heap.size := (Array.getElem?_eq_some_iff.1 bk).1
    clear k1 H1 bk
    go_wp2_with fail
    obtain ⟨b1, b2⟩ := box_beside HH.out (Tn.far HK.out) (HH0.out.far HK.out)
    obtain ⟨k1, k2⟩ := three_set b1 (.int .i64 3) (.int .i64 qk) (.int .i64 0)
    obtain ⟨h5, t5⟩ := b2 _ k2
    have kk := ((L14.al_mod (threeSet w1 w.heap.size (.int .i64 3) (.int .i64 qk) (.int .i64 0)) (frB qk qa qb qx qy (.slice sB sn sc))).block w.heap.size (Array.getElem?_eq_some_iff.1 k1).1 (by simp)).trans k1
    exact bodyPost_ret (res_st Tryz.results31 rfl kk) rfl ⟨rfl, _, h5.far (L14.al_mod _ _), t5.trans (Tn.far (L14.al_mod _ _))⟩
set_option maxHeartbeats 4000000 in
set_option maxRecDepth 100000 in
theorem step_ins (h : Eg w A T E) (hn : E.nx = 0) (hw : topKind E.F ≠ 6 ∧ topKind E.F ≠ 7) (hd : E.d ≠ 0) (Q : Int → List Int → Mu → Prop) (hQ : ∀ x, E.ins = some x → x.op = 2 → ∀ m, primW x.a E = some m → DoQ A E.C E.μ m Q) : Calls Tryz.prog 31 #[Pt A.g] w (StepsTo A T w (instrR E) (instrP E) Q) := by
  have h0 := h.far (L14.al_mod w zst)
  have c5 := h0.cs.c5
  have c6 := h.cs.c6
  have c8 := h.cs.c8
  rw [hn] at c8
  have hb0 : ((0 : Int) != 0) = false := rfl
  have lg : A.g < w.heap.size := World.block_lt_of_cell? _ _ c8
  have H1 := h0.ftop
  have H2 : ∀ W, Mod [] (w.alloc zst) W → Calls Tryz.prog 56 #[Pt A.g] W (StepsTo A T W (instrR E) (instrP E) Q) := fun W m => by
    cases hi : E.ins with
    | none =>
      refine (instruct_no (h0.far m) hi).mono fun e w' hp => ⟨(0, [], E.μ), fun hne => absurd (show instrP E = none by unfold instrP; rw [hi]; rfl) hne, ?_⟩
      unfold instrR; rw [hi]; exact hp
    | some x =>
      refine (instruct_yes (h0.far m) hi Q (hQ x hi)).mono fun e w' ⟨r, hr, hp⟩ => ⟨r, fun hne => hr (by unfold instrP at hne; rw [hi] at hne; exact hne), ?_⟩
      unfold instrR; rw [hi]; exact hp
  have H2 := Lib.hid H2
  have HH := Lib.hid h
  have HH0 := Lib.hid h0
  obtain ⟨d, ed⟩ : ∃ d, d = E.d := ⟨_, rfl⟩
  rw [← ed] at hd c6
  have hbd : (d != 0) = true := by simpa using hd
  have HD := Lib.hid ed
  rcases L14.snoc_cases E.F with hF | ⟨R, q, hF⟩
  · rw [hF] at H1
    unfold L14.topV L14.zF L14.frV at H1
    dsimp only [Option.getD, Option.isSome, List.getLast?] at H1
    have H1 := Lib.hid H1
    clear h h0 hn hw hF hd ed hQ
    go_enter Tryz.func31, Tryz.ntmps31
    go_wp2_with fail
    refine (H1.out).mono ?_
    rintro e w1 ⟨sB, sn, sc, rfl, k1⟩
    have HK := Lib.hid k1
    have c6' := (HH0.out.far k1).cs.c6
    have lg1 : A.g < w1.heap.size := World.block_lt_of_cell? _ _ c6'
    rw [← HD.out] at c6'
    clear k1 H1
    go_wp2_with fail
    refine (H2.out _ (HK.out.trans (L14.al_mod _ _))).mono ?_
    rintro e w3 ⟨r, hr, hre, T3, h3, t3⟩
    obtain ⟨S, hS⟩ : ∃ S, S = instrR E r := ⟨_, rfl⟩
    try dsimp only at hre h3
    rw [← hS] at hre h3
    obtain ⟨⟨s0, s1, s2⟩, E'⟩ := S
    unfold stV at hre
    dsimp only at hre h3
    subst hre
    obtain ⟨b1, b2⟩ := box_beside HH.out ((Tn.far (HK.out.trans (L14.al_mod _ _))).trans t3) h3
    obtain ⟨c0, c1, c2, g0, g1, g2⟩ := three_at b1
    have HB := Lib.hid (And.intro b1 (And.intro b2 (And.intro hr hS)))
    clear b1 b2 h3 t3 hr hS
    go_wp2_with fail
    obtain ⟨b1, b2, hr, hS⟩ := HB.out
    obtain ⟨k1, k2⟩ := three_set b1 (.int .i64 s0) (.int .i64 s1) (.int .i64 s2)
    obtain ⟨h5, t5⟩ := b2 _ k2
    refine bodyPost_ret (res_st Tryz.results31 rfl k1) rfl ⟨r, hr, ?_⟩
    try dsimp only
    rw [← hS]
    exact ⟨rfl, _, h5, t5⟩
  · have e1 : L14.topV E.F = q := by rw [hF]; exact L14.topV_snoc R q
    have e2 : E.F.getLast?.isSome = true := by rw [hF]; simp
    have e3 : topKind E.F = q.k := by unfold topKind; rw [hF]; simp
    rw [e1, e2] at H1
    rw [e3] at hw
    obtain ⟨qk, qa, qb, qx, qy, ql⟩ := q
    dsimp only at hw
    have hb6 : (qk == 6) = false := by simpa using hw.1
    have hb7 : (qk == 7) = false := by simpa using hw.2
    unfold L14.frV at H1
    dsimp only at H1
    have H1 := Lib.hid H1
    clear h h0 hn hw hF hd ed e1 e2 e3 hQ
    go_enter Tryz.func31, Tryz.ntmps31
    go_wp2_with fail
    refine (H1.out).mono ?_
    rintro e w1 ⟨sB, sn, sc, rfl, k1⟩
    have HK := Lib.hid k1
    have c6' := (HH0.out.far k1).cs.c6
    have lg1 : A.g < w1.heap.size := World.block_lt_of_cell? _ _ c6'
    rw [← HD.out] at c6'
    clear k1 H1
    go_wp2_with fail
    refine (H2.out _ (HK.out.trans (L14.al_mod _ _))).mono ?_
    rintro e w3 ⟨r, hr, hre, T3, h3, t3⟩
    obtain ⟨S, hS⟩ : ∃ S, S = instrR E r := ⟨_, rfl⟩
    try dsimp only at hre h3
    rw [← hS] at hre h3
    obtain ⟨⟨s0, s1, s2⟩, E'⟩ := S
    unfold stV at hre
    dsimp only at hre h3
    subst hre
    obtain ⟨b1, b2⟩ := box_beside HH.out ((Tn.far (HK.out.trans (L14.al_mod _ _))).trans t3) h3
    obtain ⟨c0, c1, c2, g0, g1, g2⟩ := three_at b1
    have HB := Lib.hid (And.intro b1 (And.intro b2 (And.intro hr hS)))
    clear b1 b2 h3 t3 hr hS
    go_wp2_with fail
    obtain ⟨b1, b2, hr, hS⟩ := HB.out
    obtain ⟨k1, k2⟩ := three_set b1 (.int .i64 s0) (.int .i64 s1) (.int .i64 s2)
    obtain ⟨h5, t5⟩ := b2 _ k2
    refine bodyPost_ret (res_st Tryz.results31 rfl k1) rfl ⟨r, hr, ?_⟩
    try dsimp only
    rw [← hS]
    exact ⟨rfl, _, h5, t5⟩
set_option maxHeartbeats 4000000 in
set_option maxRecDepth 100000 in
theorem step_end (h : Eg w A T E) (hn : E.nx = 0) {R : List L14.Fm} {q : L14.Fm} (hF : E.F = R ++ [q]) (hk : q.k ≠ 6 ∧ q.k ≠ 7) (hd : E.d = 0) : Calls Tryz.prog 31 #[Pt A.g] w (Plays A T w (stV (endE q E).1) (endE q E).2) := by
  have h0 := h.far (L14.al_mod w zst)
  have c5 := h0.cs.c5
  have c6 := h.cs.c6
  have c8 := h.cs.c8
  rw [hn] at c8
  have hb0 : ((0 : Int) != 0) = false := rfl
  have lg : A.g < w.heap.size := World.block_lt_of_cell? _ _ c8
  have H1 := h0.ftop
  have e1 : L14.topV E.F = q := by rw [hF]; exact L14.topV_snoc R q
  have e2 : E.F.getLast?.isSome = true := by rw [hF]; simp
  rw [e1, e2] at H1
  rw [hd] at c6
  have H2 : ∀ W, Mod [] (w.alloc zst) W → ∀ sB sn sc, Calls Tryz.prog 57 #[Pt A.g, L14.frV q (.slice sB sn sc)] W (Plays A T W (stV (endE q E).1) (endE q E).2) := fun W m sB sn sc => endframe_calls (h0.far m) hF sB sn sc
  generalize endE q E = S at H2 ⊢
  obtain ⟨⟨s0, s1, s2⟩, E'⟩ := S
  obtain ⟨qk, qa, qb, qx, qy, ql⟩ := q
  dsimp only at hk
  have hb6 : (qk == 6) = false := by simpa using hk.1
  have hb7 : (qk == 7) = false := by simpa using hk.2
  unfold L14.frV at H1 H2
  dsimp only at H1 H2
  have H1 := Lib.hid H1
  have H2 := Lib.hid H2
  have HH := Lib.hid h
  have HH0 := Lib.hid h0
  have HD := Lib.hid hd
  clear h h0 hn hF e1 e2 hk hd
  go_enter Tryz.func31, Tryz.ntmps31
  go_wp2_with fail
  refine (H1.out).mono ?_
  rintro e w1 ⟨sB, sn, sc, rfl, k1⟩
  have HK := Lib.hid k1
  have c6' := (HH0.out.far k1).cs.c6
  have lg1 : A.g < w1.heap.size := World.block_lt_of_cell? _ _ c6'
  rw [HD.out] at c6'
  clear k1 H1
  go_wp2_with fail
  refine (H2.out _ (HK.out.trans (L14.al_mod _ _)) _ _ _).mono ?_
  rintro e w3 ⟨rfl, T3, h3, t3⟩
  obtain ⟨b1, b2⟩ := box_beside HH.out ((Tn.far (HK.out.trans (L14.al_mod _ _))).trans t3) h3
  obtain ⟨c0, c1, c2, g0, g1, g2⟩ := three_at b1
  have HB := Lib.hid (And.intro b1 b2)
  clear b1 b2
  unfold stV
  dsimp only
  go_wp2_with fail
  obtain ⟨b1, b2⟩ := HB.out
  obtain ⟨k1, k2⟩ := three_set b1 (.int .i64 s0) (.int .i64 s1) (.int .i64 s2)
  obtain ⟨h5, t5⟩ := b2 _ k2
  exact bodyPost_ret (res_st Tryz.results31 rfl k1) rfl ⟨rfl, _, h5, t5⟩
set_option maxHeartbeats 4000000 in
set_option maxRecDepth 100000 in
theorem step_halt (h : Eg w A T E) (hn : E.nx = 0) (hF : E.F = []) (hd : E.d = 0) : Calls Tryz.prog 31 #[Pt A.g] w (Plays A T w (stV (5, 0, 0)) E) := by
  have h0 := h.far (L14.al_mod w zst)
  have c5 := h0.cs.c5
  have c6 := h.cs.c6
  have c8 := h.cs.c8
  rw [hn] at c8
  have hb0 : ((0 : Int) != 0) = false := rfl
  have lg : A.g < w.heap.size := World.block_lt_of_cell? _ _ c8
  have H1 := h0.ftop
  rw [hF] at H1
  rw [hd] at c6
  unfold L14.topV L14.zF L14.frV at H1
  dsimp only [Option.getD, Option.isSome, List.getLast?] at H1
  unfold stV
  dsimp only
  have H1 := Lib.hid H1
  have HH := Lib.hid h
  have HH0 := Lib.hid h0
  have HD := Lib.hid hd
  clear h h0 hn hF hd
  go_enter Tryz.func31, Tryz.ntmps31
  go_wp2_with fail
  refine (H1.out).mono ?_
  rintro e w1 ⟨sB, sn, sc, rfl, k1⟩
  have HK := Lib.hid k1
  have c6' := (HH0.out.far k1).cs.c6
  have lg1 : A.g < w1.heap.size := World.block_lt_of_cell? _ _ c6'
  rw [HD.out] at c6'
  have bk := (k1.block w.heap.size (by rw [L14.size_allocI]; omega) (by simp)).trans (MapKept.heap_alloc w zst).1
  obtain ⟨c0, c1, c2, g0, g1, g2⟩ := three_at bk
  have l1 : w.heap.size < w1.heap.size := (Array.getElem?_eq_some_iff.1 bk).1
  clear k1 H1 bk
  go_wp2_with fail
  obtain ⟨b1, b2⟩ := box_beside HH.out (Tn.far HK.out) (HH0.out.far HK.out)
  obtain ⟨k1, k2⟩ := three_set b1 (.int .i64 5) (.int .i64 0) (.int .i64 0)
  obtain ⟨h5, t5⟩ := b2 _ k2
  have kk := ((L14.al_mod (threeSet w1 w.heap.size (.int .i64 5) (.int .i64 0) (.int .i64 0)) (frB 0 0 0 0 0 (.slice sB sn sc))).block w.heap.size (Array.getElem?_eq_some_iff.1 k1).1 (by simp)).trans k1
  exact bodyPost_ret (res_st Tryz.results31 rfl kk) rfl ⟨rfl, _, h5.far (L14.al_mod _ _), t5.trans (Tn.far (L14.al_mod _ _))⟩
theorem top_kind {F R : List L14.Fm} {q : L14.Fm} (hF : F = R ++ [q]) : topKind F = q.k := by unfold topKind; rw [hF]; simp
set_option maxHeartbeats 1000000 in
/-- A step: what the plain engine does. -/
theorem estep_calls (h : Eg w A T E) (Q : Int → List Int → Mu → Prop) (hQ : ∀ m, primE E = some m → DoQ A E.C E.μ m Q) : Calls Tryz.prog 31 #[Pt A.g] w (StepsTo A T w (fun r => stepE r E) (primE E) Q) := by
  by_cases hn : E.nx = 0
  · by_cases hw : topKind E.F = 6 ∨ topKind E.F = 7
    · rcases L14.snoc_cases E.F with hF | ⟨R, q, hF⟩
      · rw [hF] at hw; unfold topKind at hw; simp at hw
      · have hk := top_kind hF
        rw [hk] at hw
        refine (step_wait h hn hF hw).mono fun e w' hp => ⟨(0, [], E.μ), fun hne => absurd ?_ hne, ?_⟩
        · unfold primE; rw [if_neg (by simpa using hn), hk, if_pos hw]
        · dsimp only
          have e1 : stepE (0, [], E.μ) E = ((3, q.k, 0), E) := by unfold stepE; rw [if_neg (by simpa using hn), hk, if_pos hw]
          rw [e1]; exact hp
    · have hw' : topKind E.F ≠ 6 ∧ topKind E.F ≠ 7 := by omega
      by_cases hd : E.d = 0
      · rcases L14.snoc_cases E.F with hF | ⟨R, q, hF⟩
        · refine (step_halt h hn hF hd).mono fun e w' hp => ⟨(0, [], E.μ), fun hne => absurd ?_ hne, ?_⟩
          · unfold primE; rw [if_neg (by simpa using hn), if_neg hw, if_neg (by simpa using hd)]
          · dsimp only
            have e1 : stepE (0, [], E.μ) E = ((5, 0, 0), E) := by unfold stepE; rw [if_neg (by simpa using hn), if_neg hw, if_neg (by simpa using hd), hF]; rfl
            rw [e1]; exact hp
        · have hk := top_kind hF
          have hl : E.F.getLast? = some q := by rw [hF]; simp
          refine (step_end h hn hF (by rw [← hk]; exact hw') hd).mono fun e w' hp => ⟨(0, [], E.μ), fun hne => absurd ?_ hne, ?_⟩
          · unfold primE; rw [if_neg (by simpa using hn), if_neg hw, if_neg (by simpa using hd)]
          · dsimp only
            have e1 : stepE (0, [], E.μ) E = endE q E := by unfold stepE; rw [if_neg (by simpa using hn), if_neg hw, if_neg (by simpa using hd), hl]
            rw [e1]; exact hp
      · have ep : primE E = instrP E := by unfold primE instrP; rw [if_neg (by simpa using hn), if_neg hw, if_pos hd]
        have es : (fun r => stepE r E) = instrR E := by
          funext r
          unfold stepE instrR
          rw [if_neg (by simpa using hn), if_neg hw, if_pos hd]
          cases E.ins <;> rfl
        rw [ep, es]
        refine step_ins h hn hw' hd Q fun x hi hx m hm => hQ m ?_
        rw [ep]
        unfold instrP
        rw [hi]
        show (if x.op = 2 then primW x.a E else none) = some m
        rw [if_pos hx]; exact hm
  · have ep : primE E = primW E.nx E := by unfold primE; rw [if_pos hn]
    have es : (fun r => stepE r E) = fun r => execE r E.nx { E with nx := 0 } := by
      funext r
      unfold stepE
      rw [if_pos hn]
    rw [es, ep]
    exact step_next h hn Q fun m hm => hQ m (by rw [ep]; exact hm)
end
end Go.Proofs.YtifnkmddinoneaaGreatDoor
namespace Go.Proofs.YtifnkmddinoneaaGreatDoor
open Go.RowKit
set_option linter.unusedVariables false
set_option maxHeartbeats 8000000 in
set_option maxRecDepth 100000 in
theorem controls_calls (w : World) (p : Nat) : Calls Tryz.prog 51 #[Pt p] w fun e w' => ∃ M, e = .returned (.map (some M)) ∧ w.heap.size ≤ M ∧ (∃ f, MapV w' M f ∧ ∀ (n : Nat) F, ctlF n = some F → f n = some (mval F p)) ∧ Mod [] w w' := by
  obtain ⟨M, hM⟩ : ∃ M, M = w.heap.size := ⟨_, rfl⟩
  have b0 := MapV.new w
  rw [← hM] at b0
  have u0 := (Mod.refl [] w).alloc (.map #[] 0)
  obtain ⟨w0, hw0⟩ : ∃ w0, w0 = w.alloc (.map #[] 0) := ⟨_, rfl⟩
  rw [← hw0] at b0 u0
  obtain ⟨w1, r1, b1, t1⟩ := b0.put (P := Tryz.prog) Tryz.underlying88 Tryz.underlying3 1 (mval 82 p) (rfl)
  obtain ⟨w2, r2, b2, t2⟩ := b1.put (P := Tryz.prog) Tryz.underlying88 Tryz.underlying3 2 (mval 83 p) (by simp [updV])
  obtain ⟨w3, r3, b3, t3⟩ := b2.put (P := Tryz.prog) Tryz.underlying88 Tryz.underlying3 3 (mval 84 p) (by simp [updV])
  obtain ⟨w4, r4, b4, t4⟩ := b3.put (P := Tryz.prog) Tryz.underlying88 Tryz.underlying3 4 (mval 85 p) (by simp [updV])
  obtain ⟨w5, r5, b5, t5⟩ := b4.put (P := Tryz.prog) Tryz.underlying88 Tryz.underlying3 5 (mval 86 p) (by simp [updV])
  obtain ⟨w6, r6, b6, t6⟩ := b5.put (P := Tryz.prog) Tryz.underlying88 Tryz.underlying3 6 (mval 87 p) (by simp [updV])
  obtain ⟨w7, r7, b7, t7⟩ := b6.put (P := Tryz.prog) Tryz.underlying88 Tryz.underlying3 7 (mval 88 p) (by simp [updV])
  obtain ⟨w8, r8, b8, t8⟩ := b7.put (P := Tryz.prog) Tryz.underlying88 Tryz.underlying3 8 (mval 89 p) (by simp [updV])
  obtain ⟨w9, r9, b9, t9⟩ := b8.put (P := Tryz.prog) Tryz.underlying88 Tryz.underlying3 9 (mval 90 p) (by simp [updV])
  have s0 : Mod [M] w0 w9 := ((((((((t1.trans t2).trans t3).trans t4).trans t5).trans t6).trans t7).trans t8).trans t9)
  have hfin : Mod [] w w9 := u0.then s0 (fun x hx => Or.inr (by rw [List.mem_singleton.1 hx, hM]; exact Nat.le_refl _))
  have HF : RowKit.Hid (∃ f, MapV w9 M f ∧ ∀ (n : Nat) F, ctlF n = some F → f n = some (mval F p)) := Lib.hid (by
    refine ⟨_, b9, fun n F hF => ?_⟩
    have hc : n = 0 ∨ n = 1 ∨ n = 2 ∨ n = 3 ∨ n = 4 ∨ n = 5 ∨ n = 6 ∨ n = 7 ∨ n = 8 ∨ n = 9 ∨ 10 ≤ n := by omega
    rcases hc with rfl | rfl | rfl | rfl | rfl | rfl | rfl | rfl | rfl | rfl | hc
    · cases hF
    · obtain rfl : 82 = F := Option.some.inj hF
      simp [updV]
    · obtain rfl : 83 = F := Option.some.inj hF
      simp [updV]
    · obtain rfl : 84 = F := Option.some.inj hF
      simp [updV]
    · obtain rfl : 85 = F := Option.some.inj hF
      simp [updV]
    · obtain rfl : 86 = F := Option.some.inj hF
      simp [updV]
    · obtain rfl : 87 = F := Option.some.inj hF
      simp [updV]
    · obtain rfl : 88 = F := Option.some.inj hF
      simp [updV]
    · obtain rfl : 89 = F := Option.some.inj hF
      simp [updV]
    · obtain rfl : 90 = F := Option.some.inj hF
      simp [updV]
    · unfold ctlF at hF
      rw [List.getD_eq_getElem?_getD, List.getElem?_eq_none (by simp; omega)] at hF
      cases hF)
  have HM := Lib.hid hfin
  have HL := Lib.hid (Nat.le_of_eq hM.symm)
  clear u0 s0 hfin b0 b1 b2 b3 b4 b5 b6 b7 b8 b9 t1 t2 t3 t4 t5 t6 t7 t8 t9
  subst hM
  subst hw0
  replace r1 : (Instr.mapUpdate 88 (.map (some w.heap.size)) (.int .i64 1) (.func (.func 82) #[Pt p] #[])).run Tryz.prog (w.alloc (.map #[] 0)) = .ok () w1 := r1
  replace r2 : (Instr.mapUpdate 88 (.map (some w.heap.size)) (.int .i64 2) (.func (.func 83) #[Pt p] #[])).run Tryz.prog w1 = .ok () w2 := r2
  replace r3 : (Instr.mapUpdate 88 (.map (some w.heap.size)) (.int .i64 3) (.func (.func 84) #[Pt p] #[])).run Tryz.prog w2 = .ok () w3 := r3
  replace r4 : (Instr.mapUpdate 88 (.map (some w.heap.size)) (.int .i64 4) (.func (.func 85) #[Pt p] #[])).run Tryz.prog w3 = .ok () w4 := r4
  replace r5 : (Instr.mapUpdate 88 (.map (some w.heap.size)) (.int .i64 5) (.func (.func 86) #[Pt p] #[])).run Tryz.prog w4 = .ok () w5 := r5
  replace r6 : (Instr.mapUpdate 88 (.map (some w.heap.size)) (.int .i64 6) (.func (.func 87) #[Pt p] #[])).run Tryz.prog w5 = .ok () w6 := r6
  replace r7 : (Instr.mapUpdate 88 (.map (some w.heap.size)) (.int .i64 7) (.func (.func 88) #[Pt p] #[])).run Tryz.prog w6 = .ok () w7 := r7
  replace r8 : (Instr.mapUpdate 88 (.map (some w.heap.size)) (.int .i64 8) (.func (.func 89) #[Pt p] #[])).run Tryz.prog w7 = .ok () w8 := r8
  replace r9 : (Instr.mapUpdate 88 (.map (some w.heap.size)) (.int .i64 9) (.func (.func 90) #[Pt p] #[])).run Tryz.prog w8 = .ok () w9 := r9
  go_enter Tryz.func51, Tryz.ntmps51
  have hmm := @run_makeMap Tryz.prog
  go_wp2_with fail
  go_ret
  exact ⟨_, rfl, HL.out, HF.out, HM.out⟩
set_option maxHeartbeats 8000000 in
set_option maxRecDepth 100000 in
theorem instructions_calls (w : World) (p : Nat) : Calls Tryz.prog 52 #[Pt p] w fun e w' => ∃ M, e = .returned (.map (some M)) ∧ w.heap.size ≤ M ∧ (∃ f, MapU w' M f ∧ ∀ (n : Nat) F, insF n = some F → f n = some (mval F p)) ∧ Mod [] w w' := by
  obtain ⟨M, hM⟩ : ∃ M, M = w.heap.size := ⟨_, rfl⟩
  have b0 := MapU.new w
  rw [← hM] at b0
  have u0 := (Mod.refl [] w).alloc (.map #[] 0)
  obtain ⟨w0, hw0⟩ : ∃ w0, w0 = w.alloc (.map #[] 0) := ⟨_, rfl⟩
  rw [← hw0] at b0 u0
  obtain ⟨w1, r1, b1, t1⟩ := b0.put (P := Tryz.prog) Tryz.underlying89 Tryz.underlying5 1 (mval 91 p) (rfl)
  obtain ⟨w2, r2, b2, t2⟩ := b1.put (P := Tryz.prog) Tryz.underlying89 Tryz.underlying5 2 (mval 92 p) (by simp [updV])
  obtain ⟨w3, r3, b3, t3⟩ := b2.put (P := Tryz.prog) Tryz.underlying89 Tryz.underlying5 3 (mval 93 p) (by simp [updV])
  obtain ⟨w4, r4, b4, t4⟩ := b3.put (P := Tryz.prog) Tryz.underlying89 Tryz.underlying5 4 (mval 94 p) (by simp [updV])
  obtain ⟨w5, r5, b5, t5⟩ := b4.put (P := Tryz.prog) Tryz.underlying89 Tryz.underlying5 5 (mval 95 p) (by simp [updV])
  obtain ⟨w6, r6, b6, t6⟩ := b5.put (P := Tryz.prog) Tryz.underlying89 Tryz.underlying5 6 (mval 96 p) (by simp [updV])
  obtain ⟨w7, r7, b7, t7⟩ := b6.put (P := Tryz.prog) Tryz.underlying89 Tryz.underlying5 7 (mval 97 p) (by simp [updV])
  obtain ⟨w8, r8, b8, t8⟩ := b7.put (P := Tryz.prog) Tryz.underlying89 Tryz.underlying5 8 (mval 98 p) (by simp [updV])
  obtain ⟨w9, r9, b9, t9⟩ := b8.put (P := Tryz.prog) Tryz.underlying89 Tryz.underlying5 9 (mval 99 p) (by simp [updV])
  obtain ⟨w10, r10, b10, t10⟩ := b9.put (P := Tryz.prog) Tryz.underlying89 Tryz.underlying5 10 (mval 100 p) (by simp [updV])
  obtain ⟨w11, r11, b11, t11⟩ := b10.put (P := Tryz.prog) Tryz.underlying89 Tryz.underlying5 11 (mval 101 p) (by simp [updV])
  obtain ⟨w12, r12, b12, t12⟩ := b11.put (P := Tryz.prog) Tryz.underlying89 Tryz.underlying5 12 (mval 102 p) (by simp [updV])
  obtain ⟨w13, r13, b13, t13⟩ := b12.put (P := Tryz.prog) Tryz.underlying89 Tryz.underlying5 13 (mval 103 p) (by simp [updV])
  obtain ⟨w14, r14, b14, t14⟩ := b13.put (P := Tryz.prog) Tryz.underlying89 Tryz.underlying5 14 (mval 104 p) (by simp [updV])
  obtain ⟨w15, r15, b15, t15⟩ := b14.put (P := Tryz.prog) Tryz.underlying89 Tryz.underlying5 15 (mval 105 p) (by simp [updV])
  have s0 : Mod [M] w0 w15 := ((((((((((((((t1.trans t2).trans t3).trans t4).trans t5).trans t6).trans t7).trans t8).trans t9).trans t10).trans t11).trans t12).trans t13).trans t14).trans t15)
  have hfin : Mod [] w w15 := u0.then s0 (fun x hx => Or.inr (by rw [List.mem_singleton.1 hx, hM]; exact Nat.le_refl _))
  have HF : RowKit.Hid (∃ f, MapU w15 M f ∧ ∀ (n : Nat) F, insF n = some F → f n = some (mval F p)) := Lib.hid (by
    refine ⟨_, b15, fun n F hF => ?_⟩
    have hc : n = 0 ∨ n = 1 ∨ n = 2 ∨ n = 3 ∨ n = 4 ∨ n = 5 ∨ n = 6 ∨ n = 7 ∨ n = 8 ∨ n = 9 ∨ n = 10 ∨ n = 11 ∨ n = 12 ∨ n = 13 ∨ n = 14 ∨ n = 15 ∨ 16 ≤ n := by omega
    rcases hc with rfl | rfl | rfl | rfl | rfl | rfl | rfl | rfl | rfl | rfl | rfl | rfl | rfl | rfl | rfl | rfl | hc
    · cases hF
    · obtain rfl : 91 = F := Option.some.inj hF
      simp [updV]
    · obtain rfl : 92 = F := Option.some.inj hF
      simp [updV]
    · obtain rfl : 93 = F := Option.some.inj hF
      simp [updV]
    · obtain rfl : 94 = F := Option.some.inj hF
      simp [updV]
    · obtain rfl : 95 = F := Option.some.inj hF
      simp [updV]
    · obtain rfl : 96 = F := Option.some.inj hF
      simp [updV]
    · obtain rfl : 97 = F := Option.some.inj hF
      simp [updV]
    · obtain rfl : 98 = F := Option.some.inj hF
      simp [updV]
    · obtain rfl : 99 = F := Option.some.inj hF
      simp [updV]
    · obtain rfl : 100 = F := Option.some.inj hF
      simp [updV]
    · obtain rfl : 101 = F := Option.some.inj hF
      simp [updV]
    · obtain rfl : 102 = F := Option.some.inj hF
      simp [updV]
    · obtain rfl : 103 = F := Option.some.inj hF
      simp [updV]
    · obtain rfl : 104 = F := Option.some.inj hF
      simp [updV]
    · obtain rfl : 105 = F := Option.some.inj hF
      simp [updV]
    · unfold insF at hF
      rw [List.getD_eq_getElem?_getD, List.getElem?_eq_none (by simp; omega)] at hF
      cases hF)
  have HM := Lib.hid hfin
  have HL := Lib.hid (Nat.le_of_eq hM.symm)
  clear u0 s0 hfin b0 b1 b2 b3 b4 b5 b6 b7 b8 b9 b10 b11 b12 b13 b14 b15 t1 t2 t3 t4 t5 t6 t7 t8 t9 t10 t11 t12 t13 t14 t15
  subst hM
  subst hw0
  replace r1 : (Instr.mapUpdate 89 (.map (some w.heap.size)) (.int .u8 1) (.func (.func 91) #[Pt p] #[])).run Tryz.prog (w.alloc (.map #[] 0)) = .ok () w1 := r1
  replace r2 : (Instr.mapUpdate 89 (.map (some w.heap.size)) (.int .u8 2) (.func (.func 92) #[Pt p] #[])).run Tryz.prog w1 = .ok () w2 := r2
  replace r3 : (Instr.mapUpdate 89 (.map (some w.heap.size)) (.int .u8 3) (.func (.func 93) #[Pt p] #[])).run Tryz.prog w2 = .ok () w3 := r3
  replace r4 : (Instr.mapUpdate 89 (.map (some w.heap.size)) (.int .u8 4) (.func (.func 94) #[Pt p] #[])).run Tryz.prog w3 = .ok () w4 := r4
  replace r5 : (Instr.mapUpdate 89 (.map (some w.heap.size)) (.int .u8 5) (.func (.func 95) #[Pt p] #[])).run Tryz.prog w4 = .ok () w5 := r5
  replace r6 : (Instr.mapUpdate 89 (.map (some w.heap.size)) (.int .u8 6) (.func (.func 96) #[Pt p] #[])).run Tryz.prog w5 = .ok () w6 := r6
  replace r7 : (Instr.mapUpdate 89 (.map (some w.heap.size)) (.int .u8 7) (.func (.func 97) #[Pt p] #[])).run Tryz.prog w6 = .ok () w7 := r7
  replace r8 : (Instr.mapUpdate 89 (.map (some w.heap.size)) (.int .u8 8) (.func (.func 98) #[Pt p] #[])).run Tryz.prog w7 = .ok () w8 := r8
  replace r9 : (Instr.mapUpdate 89 (.map (some w.heap.size)) (.int .u8 9) (.func (.func 99) #[Pt p] #[])).run Tryz.prog w8 = .ok () w9 := r9
  replace r10 : (Instr.mapUpdate 89 (.map (some w.heap.size)) (.int .u8 10) (.func (.func 100) #[Pt p] #[])).run Tryz.prog w9 = .ok () w10 := r10
  replace r11 : (Instr.mapUpdate 89 (.map (some w.heap.size)) (.int .u8 11) (.func (.func 101) #[Pt p] #[])).run Tryz.prog w10 = .ok () w11 := r11
  replace r12 : (Instr.mapUpdate 89 (.map (some w.heap.size)) (.int .u8 12) (.func (.func 102) #[Pt p] #[])).run Tryz.prog w11 = .ok () w12 := r12
  replace r13 : (Instr.mapUpdate 89 (.map (some w.heap.size)) (.int .u8 13) (.func (.func 103) #[Pt p] #[])).run Tryz.prog w12 = .ok () w13 := r13
  replace r14 : (Instr.mapUpdate 89 (.map (some w.heap.size)) (.int .u8 14) (.func (.func 104) #[Pt p] #[])).run Tryz.prog w13 = .ok () w14 := r14
  replace r15 : (Instr.mapUpdate 89 (.map (some w.heap.size)) (.int .u8 15) (.func (.func 105) #[Pt p] #[])).run Tryz.prog w14 = .ok () w15 := r15
  go_enter Tryz.func52, Tryz.ntmps52
  have hmm := @run_makeMap Tryz.prog
  go_wp2_with fail
  go_ret
  exact ⟨_, rfl, HL.out, HF.out, HM.out⟩
end Go.Proofs.YtifnkmddinoneaaGreatDoor
