/- Layer 15: Throw, and what is behind an error. Condition: the block is an engine (Eg). Layer 15: what is behind an error, or none; frames that an engine looks at; calls. Condition: the block is an engine (Eg). Layer 15: a definition is called; the word that is next. Condition: the block is an engine (Eg). Layer 15: calls of definitions; cells taken for an action. Condition: the block is an engine (Eg). Layer 15: cells that are taken for an action, and put back where that goes wrong; frames made of them. Condition: the block is an engine (Eg). Layer 15: frames that are made of cells; a loop that goes on; words that are taken; what catches. Condition: the block is an engine (Eg). Layer 15: the frame that catches. Condition: the block is an engine (Eg). -/
import Derived.Test.YtifnkmddinoneaaGreatDoorCBAV
set_option maxRecDepth 100000
namespace Go.Proofs.YtifnkmddinoneaaGreatDoor
open Go.RowKit
set_option linter.unusedVariables false
section
variable {w w' : World} {A : Ag} {E : Es} {T : List Nat}
theorem i64_0 : I64 0 := by unfold I64; omega
def idle (E : Es) : Es := { E with d := 0, i := 0, nx := 0 }
theorem Eg.idle (h : Eg w A T E) : Eg (((w.setCell ⟨A.g, 8, none⟩ (.int .i64 0)).setCell ⟨A.g, 6, none⟩ (.int .i64 0)).setCell ⟨A.g, 7, none⟩ (.int .i64 0)) A T (idle E) ∧ Tn T T w (((w.setCell ⟨A.g, 8, none⟩ (.int .i64 0)).setCell ⟨A.g, 6, none⟩ (.int .i64 0)).setCell ⟨A.g, 7, none⟩ (.int .i64 0)) := by
  obtain ⟨h1, t1⟩ := h.set8 0 i64_0
  obtain ⟨h2, t2⟩ := h1.set6 0 i64_0
  obtain ⟨h3, t3⟩ := h2.set7 0 i64_0
  exact ⟨h3, (t1.trans t2).trans t3⟩
abbrev zst : Obj := .cells #[.int .i64 0, .int .i64 0, .int .i64 0] TS15
theorem cut_none (L : List Int) : cutL (clamp 0) L = [] := by
  have e : clamp 0 = 0 := by decide
  rw [e]; simp [cutL]
theorem Tn.keeps {T' : List Nat} (t : Tn T T' w w') {b : Nat} (hb : b ∉ T) (hl : b < w.heap.size) : w'.heap[b]? = w.heap[b]? ∧ b ∉ T' ∧ b < w'.heap.size :=
  ⟨t.m.block b hl hb, fun hx => (t.new b hx).elim hb fun e => by omega, Nat.lt_of_lt_of_le hl t.m.size⟩
set_option maxHeartbeats 4000000 in
set_option maxRecDepth 100000 in
theorem throw0 (h : Eg w A T E) (er : Int) (he : I64 er) (hn : L14.caught E.F = none) : Calls Tryz.prog 108 #[Pt A.g, .int .i64 er] w (Plays A T w (stV (throwE er E).1) (throwE er E).2) := by
  have hb := h.cs
  have c6 := hb.c6
  have c7 := hb.c7
  have c8 := hb.c8
  have f6 := hb.f6
  have f7 := hb.f7
  have f8 := hb.f8
  have lg : A.g < w.heap.size := World.block_lt_of_cell? _ _ c6
  have e1 : throwE er E = ((4, 0, er), { E with F := [], C := [], d := 0, i := 0, nx := 0 }) := by unfold throwE; rw [hn]
  rw [e1]
  clear e1
  have HH := Lib.hid (And.intro h hn)
  clear h hn hb
  go_enter Tryz.func108, Tryz.ntmps108
  go_upto_region 4 with fail
  obtain ⟨h, hn⟩ := HH.out
  obtain ⟨hX, tX⟩ := h.idle
  obtain ⟨X, eX⟩ : ∃ X, X = ((w.setCell ⟨A.g, 8, none⟩ (.int .i64 0)).setCell ⟨A.g, 6, none⟩ (.int .i64 0)).setCell ⟨A.g, 7, none⟩ (.int .i64 0) := ⟨_, rfl⟩
  have hz : w.heap.size = X.heap.size := by rw [eX]; simp [World.setCell]
  rw [← eX] at hX tX ⊢
  have hXb := hX.far (L14.al_mod X zst)
  have c5 := hXb.cs.c5
  have H1 := Lib.hid (hXb.fcatch0 hn)
  have HX := Lib.hid (And.intro hX (And.intro tX hXb))
  have lg' : A.g < X.heap.size := by rw [← hz]; exact lg
  rw [hz]
  clear h hn eX hX tX hXb HH c6 c7 c8 f6 f7 f8 hz lg
  go_wp2_with fail
  refine (H1.out).mono ?_
  rintro e w2 ⟨rfl, k2⟩
  have h2 := HX.out.2.2.far k2
  have H2 := Lib.hid (fun W (m : Mod [] w2 W) => estack_calls (h2.far m))
  have H3 := Lib.hid (fun W (m : Mod [] w2 W) => (h2.far m).scut 0 i64_0)
  have HK := Lib.hid k2
  clear k2 h2 H1
  go_wp2_with fail
  refine (H2.out _ (L14.al_mod _ _)).mono ?_
  rintro e w3 ⟨rfl, rfl⟩
  go_wp2_with fail
  refine (H3.out _ (L14.al_mod _ _)).mono ?_
  rintro e w3 ⟨rfl, T3, h3, t3⟩
  have c5 := h3.cs.c5
  have H4 := Lib.hid (h3.fcut 0)
  have HT := Lib.hid (And.intro h3 (((Tn.far HK.out).trans (Tn.far (L14.al_mod w2 _))).trans t3))
  clear h3 t3 H2 H3
  go_wp2_with fail
  refine (H4.out).mono ?_
  rintro e w4 ⟨⟨r, rfl⟩, T4, h4, t4⟩
  obtain ⟨b1, b2⟩ := box_beside HX.out.1 (HT.out.2.trans t4) h4
  obtain ⟨c0, c1, c2, g0, g1, g2⟩ := three_at b1
  have HB := Lib.hid (And.intro b1 (And.intro b2 h4))
  clear b1 b2 h4 t4 H4
  go_wp2_with fail
  obtain ⟨b1, b2, h4⟩ := HB.out
  obtain ⟨k1, k2⟩ := three_set b1 (.int .i64 4) (.int .i64 0) (.int .i64 er)
  obtain ⟨h5, t5⟩ := b2 _ k2
  rw [cut_none] at h5
  exact bodyPost_ret (res_st Tryz.results108 rfl k1) rfl ⟨rfl, T4, h5, HX.out.2.1.trans t5⟩
set_option maxHeartbeats 4000000 in
set_option maxRecDepth 100000 in
theorem throw1 (h : Eg w A T E) (er : Int) (he : I64 er) {q : L14.Fm} (hn : L14.caught E.F = some q) (hq : OkF q) : Calls Tryz.prog 108 #[Pt A.g, .int .i64 er] w (Plays A T w (stV (throwE er E).1) (throwE er E).2) := by
  have hb := h.cs
  have c6 := hb.c6
  have c7 := hb.c7
  have c8 := hb.c8
  have f6 := hb.f6
  have f7 := hb.f7
  have f8 := hb.f8
  have lg : A.g < w.heap.size := World.block_lt_of_cell? _ _ c6
  have e1 : throwE er E = (ranS, { E with F := L14.catchL E.F, C := (putL [er] (cutL (clamp q.a) E.C)).2, d := 0, i := 0, nx := 0, I := thrown q E.I }) := by unfold throwE; rw [hn]
  rw [e1]
  clear e1
  obtain ⟨qk, qa, qb, qx, qy, ql⟩ := q
  dsimp only
  have HH := Lib.hid (And.intro h (And.intro hn (And.intro hq he)))
  clear h hn hb hq he
  go_enter Tryz.func108, Tryz.ntmps108
  go_upto_region 4 with fail
  obtain ⟨h, hn, hq, he⟩ := HH.out
  obtain ⟨hX, tX⟩ := h.idle
  obtain ⟨X, eX⟩ : ∃ X, X = ((w.setCell ⟨A.g, 8, none⟩ (.int .i64 0)).setCell ⟨A.g, 6, none⟩ (.int .i64 0)).setCell ⟨A.g, 7, none⟩ (.int .i64 0) := ⟨_, rfl⟩
  have hz : w.heap.size = X.heap.size := by rw [eX]; simp [World.setCell]
  rw [← eX] at hX tX ⊢
  have hXb := hX.far (L14.al_mod X zst)
  have c5 := hXb.cs.c5
  have H1 := Lib.hid (hXb.fcatch hn)
  have HX := Lib.hid (And.intro hX (And.intro tX (And.intro hq he)))
  have lg' : A.g < X.heap.size := by rw [← hz]; exact lg
  rw [hz]
  clear h hn eX hX tX hXb HH c6 c7 c8 f6 f7 f8 hz lg hq he
  go_wp2_with fail
  refine (H1.out).mono ?_
  rintro e w2 ⟨sB, sn, sc, rfl, T2, h2, t2⟩
  unfold L14.frV
  dsimp only
  have HK := Lib.hid (And.intro h2 t2)
  clear h2 t2 H1
  go_upto_region 9 with fail
  obtain ⟨h2, t2⟩ := HK.out
  have hY := h2.far (L14.al_mod w2 (.cells #[.int .i64 qk, .int .i64 qa, .int .i64 qb, .int .i64 qx, .int .i64 qy, .slice sB sn sc] L14.TF))
  have tY := t2.trans (Tn.far (T := T2) (L14.al_mod w2 (.cells #[.int .i64 qk, .int .i64 qa, .int .i64 qb, .int .i64 qx, .int .i64 qy, .slice sB sn sc] L14.TF)))
  have bY := (MapKept.heap_alloc w2 (.cells #[.int .i64 qk, .int .i64 qa, .int .i64 qb, .int .i64 qx, .int .i64 qy, .slice sB sn sc] L14.TF)).1
  have nY : w2.heap.size ∉ T2 := fun hx => by have := h2.tl _ hx; omega
  have zY := L14.size_allocI w2 (.cells #[.int .i64 qk, .int .i64 qa, .int .i64 qb, .int .i64 qx, .int .i64 qy, .slice sB sn sc] L14.TF)
  have lY : w2.heap.size < (w2.alloc (.cells #[.int .i64 qk, .int .i64 qa, .int .i64 qb, .int .i64 qx, .int .i64 qy, .slice sB sn sc] L14.TF)).heap.size := by rw [zY]; omega
  generalize (w2.alloc (.cells #[.int .i64 qk, .int .i64 qa, .int .i64 qb, .int .i64 qx, .int .i64 qy, .slice sB sn sc] L14.TF)) = Y at *
  generalize w2.heap.size = p at *
  obtain ⟨d0, d1, d2, d3, d4, d5, _⟩ := L14.six_at bY
  have hD := (Mod.refl [] Y).drew
  have H2 := Lib.hid (estack_calls (hY.far hD))
  have H3 := Lib.hid ((hY.far hD).scut qa HX.out.2.2.1.1)
  have HY := Lib.hid (And.intro (tY.trans (Tn.far hD)) (And.intro ((hD.block p lY (by simp)).trans bY) (Nat.lt_of_lt_of_le lY hD.size)))
  clear h2 t2 HK hY tY bY zY c5
  go_region_held3 (fun W => W.cell? ⟨p, 1, none⟩ = some (.int .i64 qa)) (first | with_reducible exact hD.cell (x := ⟨p, 1, none⟩) (by simp) d1 | with_reducible exact t3.m.cell (x := ⟨p, 1, none⟩) nY (hD.cell (x := ⟨p, 1, none⟩) (by simp) d1) | fail)
    (first | ((with_reducible refine (H2.out).mono ?_); rintro e w3 ⟨rfl, rfl⟩) | ((with_reducible refine (H3.out).mono ?_); rintro e w3 ⟨rfl, T3, h3, t3⟩) | fail)
  obtain ⟨tY, bY, lY⟩ := HY.out
  obtain ⟨k3, n3, l3⟩ := t3.keeps nY lY
  have b3 := k3.trans bY
  have H4 := Lib.hid (epush_calls h3 er HX.out.2.2.2)
  have H3' := Lib.hid (And.intro (tY.trans t3) (And.intro b3 (And.intro n3 l3)))
  clear tY bY nY lY k3 n3 l3 b3 h3 t3 HY H2 H3 d0 d1 d2 d3 d4 d5 hD
  go_wp2_with fail
  refine (H4.out).mono ?_
  rintro e w4 ⟨rfl, T4, h4, t4⟩
  obtain ⟨tY, bY, nY, lY⟩ := H3'.out
  obtain ⟨k4, n4, l4⟩ := t4.keeps nY lY
  have b4 := k4.trans bY
  obtain ⟨d0, d1, d2, d3, d4, d5, _⟩ := L14.six_at b4
  have c4 := h4.cs.c4
  have hD := (Mod.refl [] w4).drew
  have H5 := Lib.hid ((h4.far hD).icut qb HX.out.2.2.1.2.1)
  have H4' := Lib.hid (And.intro ((tY.trans t4).trans (Tn.far hD)) (And.intro ((hD.block p l4 (by simp)).trans b4) (Nat.lt_of_lt_of_le l4 hD.size)))
  clear tY bY nY lY k4 l4 b4 h4 t4 H3' H4
  go_wp2_with fail
  go_region_held3 (fun W => W.cell? ⟨p, 2, none⟩ = some (.int .i64 qb) ∧ W.cell? ⟨A.g, 4, none⟩ = some (Pt A.p)) (first | with_reducible exact ⟨hD.cell (x := ⟨p, 2, none⟩) (by simp) d2, hD.cell (x := ⟨A.g, 4, none⟩) (by simp) c4⟩ | with_reducible exact ⟨t5.m.cell (x := ⟨p, 2, none⟩) n4 (hD.cell (x := ⟨p, 2, none⟩) (by simp) d2), h5.cs.c4⟩ | fail)
    (first | ((with_reducible refine (H5.out).mono ?_); rintro e w5 ⟨rfl, T5, h5, t5⟩) | fail)
  obtain ⟨tY, bY, lY⟩ := H4'.out
  obtain ⟨k5, n5, l5⟩ := t5.keeps n4 lY
  have b5 := k5.trans bY
  have c4 := h5.cs.c4
  have hD5 := (Mod.refl [] w5).drew
  have H6 := Lib.hid (h5.far hD5).idepth
  have H5' := Lib.hid (And.intro (tY.trans t5) (And.intro b5 (And.intro h5 n5)))
  clear tY bY n4 lY k5 n5 l5 h5 t5 H4' H5 d0 d1 d2 d3 d4 d5 hD
  obtain ⟨d0, d1, d2, d3, d4, d5, _⟩ := L14.six_at b5
  clear b5
  obtain ⟨N, eN⟩ : ∃ N, N = (E.I.take (heldN E.I.length qb)).length := ⟨_, rfl⟩
  have eN2 := Lib.hid eN
  replace H6 : RowKit.Hid (Calls Tryz.prog 33 #[Pt A.p] w5.drew fun e w' => e = .returned (.int .i64 (N : Int)) ∧ w5.drew = w') := by rw [eN]; exact H6
  clear eN
  by_cases hc : (N : Int) = qb
  · have hcb : ((N : Int) == qb) = true := by simpa using hc
    have HC := Lib.hid hc
    clear hc
    go_wp2_with fail
    go_region_held3 (fun W => W.cell? ⟨p, 2, none⟩ = some (.int .i64 qb) ∧ W.cell? ⟨A.g, 4, none⟩ = some (Pt A.p)) (first | with_reducible exact ⟨hD5.cell (x := ⟨p, 2, none⟩) (by simp) d2, hD5.cell (x := ⟨A.g, 4, none⟩) (by simp) c4⟩ | fail)
      (first | ((with_reducible refine (H6.out).mono ?_); rintro e w6 ⟨rfl, rfl⟩) | fail)
    have hD6 := hD5.drew
    have H7 := Lib.hid ((H5'.out.2.2.1.far hD6).iseek qx HX.out.2.2.1.2.2.1)
    go_wp2_with fail
    go_region_held3 (fun W => W.cell? ⟨p, 3, none⟩ = some (.int .i64 qx) ∧ W.cell? ⟨A.g, 4, none⟩ = some (Pt A.p)) (first | with_reducible exact ⟨hD6.cell (x := ⟨p, 3, none⟩) (by simp) d3, hD6.cell (x := ⟨A.g, 4, none⟩) (by simp) c4⟩ | with_reducible exact ⟨t7.m.cell (x := ⟨p, 3, none⟩) H5'.out.2.2.2 (hD6.cell (x := ⟨p, 3, none⟩) (by simp) d3), h7.cs.c4⟩ | fail)
      (first | ((with_reducible refine (H7.out).mono ?_); rintro e w7 ⟨rfl, T7, h7, t7⟩) | fail)
    go_wp2_with fail
    have h8 := Lib.hid (And.intro h7 (((H5'.out.1.trans (Tn.far hD6)).trans t7)))
    clear h7 t7 H7 H6 hD5 hD6 d0 d1 d2 d3 d4 d5 c4
    refine (ran_calls _).mono ?_
    rintro e w8 ⟨rfl, k8⟩
    obtain ⟨b1, b2⟩ := box_beside HX.out.1 (h8.out.2.trans (Tn.far k8)) (h8.out.1.far k8)
    obtain ⟨c0, c1, c2, g0, g1, g2⟩ := three_at b1
    have HB := Lib.hid (And.intro b1 b2)
    clear b1 b2 k8
    unfold stV ranS
    dsimp only
    go_wp2_with fail
    obtain ⟨b1, b2⟩ := HB.out
    obtain ⟨k1, k2⟩ := three_set b1 (.int .i64 1) (.int .i64 0) (.int .i64 0)
    obtain ⟨h5, t5⟩ := b2 _ k2
    have et : thrown ⟨qk, qa, qb, qx, qy, ql⟩ E.I = seekL qx (E.I.take (heldN E.I.length qb)) := by unfold thrown; rw [if_pos (by rw [← eN2.out]; exact HC.out)]
    rw [et]
    exact bodyPost_ret (res_st Tryz.results108 rfl k1) rfl ⟨rfl, _, h5, HX.out.2.1.trans t5⟩
  · have hcb : ((N : Int) == qb) = false := by simpa using hc
    have HC := Lib.hid hc
    clear hc
    go_wp2_with fail
    go_region_held3 (fun W => W.cell? ⟨p, 2, none⟩ = some (.int .i64 qb) ∧ W.cell? ⟨A.g, 4, none⟩ = some (Pt A.p)) (first | with_reducible exact ⟨hD5.cell (x := ⟨p, 2, none⟩) (by simp) d2, hD5.cell (x := ⟨A.g, 4, none⟩) (by simp) c4⟩ | fail)
      (first | ((with_reducible refine (H6.out).mono ?_); rintro e w6 ⟨rfl, rfl⟩) | fail)
    go_wp2_with fail
    clear H6 d0 d1 d2 d3 d4 d5 c4
    refine (ran_calls _).mono ?_
    rintro e w8 ⟨rfl, k8⟩
    obtain ⟨b1, b2⟩ := box_beside HX.out.1 ((H5'.out.1.trans (Tn.far hD5)).trans (Tn.far k8)) ((H5'.out.2.2.1.far hD5).far k8)
    obtain ⟨c0, c1, c2, g0, g1, g2⟩ := three_at b1
    have HB := Lib.hid (And.intro b1 b2)
    clear b1 b2 k8
    unfold stV ranS
    dsimp only
    go_wp2_with fail
    obtain ⟨b1, b2⟩ := HB.out
    obtain ⟨k1, k2⟩ := three_set b1 (.int .i64 1) (.int .i64 0) (.int .i64 0)
    obtain ⟨h5, t5⟩ := b2 _ k2
    have et : thrown ⟨qk, qa, qb, qx, qy, ql⟩ E.I = E.I.take (heldN E.I.length qb) := by unfold thrown; rw [if_neg (by rw [← eN2.out]; exact HC.out)]
    rw [et]
    exact bodyPost_ret (res_st Tryz.results108 rfl k1) rfl ⟨rfl, _, h5, HX.out.2.1.trans t5⟩
theorem throw_calls (h : Eg w A T E) (er : Int) (he : I64 er) : Calls Tryz.prog 108 #[Pt A.g, .int .i64 er] w (Plays A T w (stV (throwE er E).1) (throwE er E).2) := by
  cases hn : L14.caught E.F with
  | none => exact throw0 h er he hn
  | some q =>
    refine throw1 h er he hn (h.ok.f q ?_)
    unfold L14.caught at hn
    obtain ⟨i, _, hi⟩ := Option.bind_eq_some_iff.1 hn
    exact List.mem_of_getElem? hi
end
end Go.Proofs.YtifnkmddinoneaaGreatDoor
namespace Go.Proofs.YtifnkmddinoneaaGreatDoor
open Go.RowKit
set_option linter.unusedVariables false
section
variable {w w' : World} {A : Ag} {E : Es} {T : List Nat}
set_option maxHeartbeats 1000000 in
theorem after_calls (h : Eg w A T E) (er : Int) (he : I64 er) : Calls Tryz.prog 109 #[Pt A.g, .int .i64 er] w (Plays A T w (stV (after (er, E)).1) (after (er, E)).2) := by
  have h0 := h.far (L14.al_mod w zst)
  have HH := Lib.hid h
  by_cases h1 : er = 0
  · subst h1
    have HE := Lib.hid h0
    have hb : ((0 : Int) != 0) = false := rfl
    unfold after
    rw [if_pos rfl]
    clear h h0
    go_enter Tryz.func109, Tryz.ntmps109
    go_wp2_with fail
    refine (ran_calls _).mono ?_
    rintro e w2 ⟨rfl, k2⟩
    obtain ⟨b1, b2⟩ := box_beside HH.out (Tn.far k2) (HE.out.far k2)
    obtain ⟨c0, c1, c2, g0, g1, g2⟩ := three_at b1
    have HB := Lib.hid (And.intro b1 b2)
    clear b1 b2 k2
    unfold stV ranS
    dsimp only
    go_wp2_with fail
    obtain ⟨b1, b2⟩ := HB.out
    obtain ⟨k1, k2⟩ := three_set b1 (.int .i64 1) (.int .i64 0) (.int .i64 0)
    obtain ⟨h5, t5⟩ := b2 _ k2
    exact bodyPost_ret (res_st Tryz.results109 rfl k1) rfl ⟨rfl, _, h5, t5⟩
  · have hb : (er != 0) = true := by simpa using h1
    have H1 := throw_calls h0 er he
    unfold after
    rw [if_neg h1]
    dsimp only
    generalize throwE er E = R at H1 ⊢
    obtain ⟨⟨s0, s1, s2⟩, E'⟩ := R
    have H1 := Lib.hid H1
    clear h h0 he h1
    go_enter Tryz.func109, Tryz.ntmps109
    go_wp2_with fail
    refine (H1.out).mono ?_
    rintro e w2 ⟨rfl, T2, h2, t2⟩
    obtain ⟨b1, b2⟩ := box_beside HH.out t2 h2
    obtain ⟨c0, c1, c2, g0, g1, g2⟩ := three_at b1
    have HB := Lib.hid (And.intro b1 b2)
    clear b1 b2 h2 t2 H1
    unfold stV
    dsimp only
    go_wp2_with fail
    obtain ⟨b1, b2⟩ := HB.out
    obtain ⟨k1, k2⟩ := three_set b1 (.int .i64 s0) (.int .i64 s1) (.int .i64 s2)
    obtain ⟨h5, t5⟩ := b2 _ k2
    exact bodyPost_ret (res_st Tryz.results109 rfl k1) rfl ⟨rfl, _, h5, t5⟩
theorem topK_cases (k : Int) (F : List L14.Fm) : (L14.topK k F = none ∧ L14.popL k F = F) ∨ ∃ B q, F = B ++ [q] ∧ q.k = k ∧ L14.topK k F = some q ∧ L14.popL k F = B := by
  rcases L14.snoc_cases F with rfl | ⟨B, q, rfl⟩
  · exact Or.inl ⟨rfl, rfl⟩
  · by_cases hk : q.k = k
    · refine Or.inr ⟨B, q, rfl, hk, ?_, ?_⟩
      · rw [L14.topK_snoc, if_pos hk]
      · unfold L14.popL; rw [L14.topK_snoc, if_pos hk]; simp
    · refine Or.inl ⟨?_, ?_⟩
      · rw [L14.topK_snoc, if_neg hk]
      · unfold L14.popL; rw [L14.topK_snoc, if_neg hk]; simp
theorem endloop_calls (h : Eg w A T E) : Calls Tryz.prog 233 #[Pt A.g] w (Plays A T w (.int .i64 (unloopE E).1) (unloopE E).2) := by
  have c5 := h.cs.c5
  have H1 := h.fpop 3
  rcases topK_cases 3 E.F with ⟨e1, e2⟩ | ⟨B, q, e0, hk, e1, e2⟩
  · have er : unloopE E = (-26, E) := by unfold unloopE; rw [e1]; rfl
    unfold L14.errK at H1
    rw [e1, e2] at H1
    rw [er]
    have H1 := Lib.hid H1
    clear h e1 e2 er
    go_enter Tryz.func233, Tryz.ntmps233
    go_wp2_with fail
    refine (H1.out).mono ?_
    rintro e w2 ⟨sB, sn, sc, rfl, T2, h2, t2⟩
    have HP := Lib.hid (And.intro h2 t2)
    clear h2 t2 H1
    unfold L14.frV
    dsimp only [Option.getD, Option.isSome]
    go_wp2_with fail
    go_ret
    exact ⟨rfl, _, HP.out.1.far (L14.al_mod _ _), HP.out.2.trans (Tn.far (L14.al_mod _ _))⟩
  · have er : unloopE E = (0, { E with F := B }) := by unfold unloopE; rw [e1, e0]; simp
    unfold L14.errK at H1
    rw [e1, e2] at H1
    rw [er]
    have H1 := Lib.hid H1
    clear h e1 e2 er e0
    obtain ⟨qk, qa, qb, qx, qy, ql⟩ := q
    go_enter Tryz.func233, Tryz.ntmps233
    go_wp2_with fail
    refine (H1.out).mono ?_
    rintro e w2 ⟨sB, sn, sc, rfl, T2, h2, t2⟩
    have HP := Lib.hid (And.intro h2 t2)
    clear h2 t2 H1
    unfold L14.frV
    dsimp only [Option.getD, Option.isSome]
    go_wp2_with fail
    go_ret
    exact ⟨rfl, _, HP.out.1.far (L14.al_mod _ _), HP.out.2.trans (Tn.far (L14.al_mod _ _))⟩
set_option maxHeartbeats 1000000 in
theorem pushframed_calls (h : Eg w A T E) : Calls Tryz.prog 231 #[Pt A.g] w (Plays A T w (.int .i64 (cellE E).1) (cellE E).2) := by
  have c5 := h.cs.c5
  have H1 := h.ftop
  rcases L14.snoc_cases E.F with e0 | ⟨B, q, e0⟩
  · have er : cellE E = (-6, E) := by unfold cellE; rw [e0]; rfl
    rw [e0] at H1
    rw [er]
    have H1 := Lib.hid H1
    have HH := Lib.hid h
    clear h e0 er
    go_enter Tryz.func231, Tryz.ntmps231
    go_wp2_with fail
    refine (H1.out).mono ?_
    rintro e w2 ⟨sB, sn, sc, rfl, k2⟩
    have HP := Lib.hid k2
    clear k2 H1
    unfold L14.frV L14.topV L14.zF
    dsimp only [Option.getD, Option.isSome, List.getLast?]
    go_wp2_with fail
    go_ret
    exact Plays.of HH.out (HP.out.trans (L14.al_mod _ _)) _
  · have hmem : q ∈ E.F := by rw [e0]; simp
    obtain ⟨_, _, hx, _⟩ := h.ok.f q hmem
    have e1 : L14.topV E.F = q := by rw [e0]; exact L14.topV_snoc B q
    have e2 : E.F.getLast?.isSome = true := by rw [e0]; simp
    rw [e1, e2] at H1
    have er : cellE E = if q.k = 2 then pushE q.x E else (-6, E) := by
      unfold cellE
      rw [e0, L14.topK_snoc]
      split <;> rename_i heq
      · split at heq
        · rename_i hk; injection heq with heq; rw [if_pos hk, heq]
        · cases heq
      · split at heq
        · cases heq
        · rename_i hk; rw [if_neg hk]
    rw [er]
    have H1 := Lib.hid H1
    have HH := Lib.hid h
    obtain ⟨qk, qa, qb, qx, qy, ql⟩ := q
    dsimp only at hx
    have H2 := Lib.hid (fun W (m : Mod [] w W) => epush_calls (h.far m) qx hx)
    dsimp only
    by_cases hk : qk = 2
    · have hkb : (qk != 2) = false := by simpa using hk
      rw [if_pos hk]
      clear h e0 er e1 e2 hmem hx hk
      go_enter Tryz.func231, Tryz.ntmps231
      go_wp2_with fail
      refine (H1.out).mono ?_
      rintro e w2 ⟨sB, sn, sc, rfl, k2⟩
      have HP := Lib.hid k2
      clear k2 H1
      unfold L14.frV
      dsimp only
      go_wp2_with fail
      refine (H2.out _ (HP.out.trans (L14.al_mod _ _))).mono ?_
      rintro e w3 ⟨rfl, T3, h3, t3⟩
      have HQ := Lib.hid (And.intro h3 t3)
      clear h3 t3 H2
      go_wp2_with fail
      go_ret
      exact ⟨rfl, _, HQ.out.1, (Tn.far (HP.out.trans (L14.al_mod _ _))).trans HQ.out.2⟩
    · have hkb : (qk != 2) = true := by simpa using hk
      rw [if_neg hk]
      clear h e0 er e1 e2 hmem hx hk H2
      go_enter Tryz.func231, Tryz.ntmps231
      go_wp2_with fail
      refine (H1.out).mono ?_
      rintro e w2 ⟨sB, sn, sc, rfl, k2⟩
      have HP := Lib.hid k2
      clear k2 H1
      unfold L14.frV
      dsimp only
      go_wp2_with fail
      go_ret
      exact Plays.of HH.out (HP.out.trans (L14.al_mod _ _)) _
theorem pushindex_calls (h : Eg w A T E) (n : Int) : Calls Tryz.prog 232 #[Pt A.g, .int .i64 n] w (Plays A T w (.int .i64 (indexE n E).1) (indexE n E).2) := by
  have c5 := h.cs.c5
  have H1 := h.findex n
  unfold indexE
  cases hi : L14.indexL n E.F with
  | none =>
    rw [hi] at H1
    have H1 := Lib.hid H1
    have HH := Lib.hid h
    clear h hi
    go_enter Tryz.func232, Tryz.ntmps232
    go_wp2_with fail
    refine (H1.out).mono ?_
    rintro e w2 ⟨rfl, k2⟩
    have HP := Lib.hid k2
    clear k2 H1
    unfold L14.orE
    dsimp only [Option.getD, Option.isSome]
    go_wp2_with fail
    go_ret
    exact Plays.of HH.out HP.out _
  | some x =>
    rw [hi] at H1
    have hx : I64 x := by
      unfold L14.indexL at hi
      obtain ⟨q, hq, rfl⟩ := Option.map_eq_some_iff.1 hi
      unfold L14.loopAt at hq
      split at hq
      · exact (h.ok.f q (List.mem_of_getElem? hq)).2.2.1
      · cases hq
    have H1 := Lib.hid H1
    have H2 := Lib.hid (fun W (m : Mod [] w W) => epush_calls (h.far m) x hx)
    clear h hi hx
    go_enter Tryz.func232, Tryz.ntmps232
    go_wp2_with fail
    refine (H1.out).mono ?_
    rintro e w2 ⟨rfl, k2⟩
    have HP := Lib.hid k2
    clear k2 H1
    unfold L14.orE
    dsimp only [Option.getD, Option.isSome]
    go_wp2_with fail
    refine (H2.out _ HP.out).mono ?_
    rintro e w3 ⟨rfl, T3, h3, t3⟩
    have HQ := Lib.hid (And.intro h3 t3)
    clear h3 t3 H2
    go_wp2_with fail
    go_ret
    exact ⟨rfl, _, HQ.out.1, (Tn.far HP.out).trans HQ.out.2⟩
end
end Go.Proofs.YtifnkmddinoneaaGreatDoor
namespace Go.Proofs.YtifnkmddinoneaaGreatDoor
open Go.RowKit
set_option linter.unusedVariables false
section
variable {w w' : World} {A : Ag} {E : Es} {T : List Nat}
theorem back_calls (h : Eg w A T E) : Calls Tryz.prog 258 #[Pt A.g] w fun e w' => e = .returned (L14.frV ⟨1, E.d, E.i, 0, 0, []⟩ (.slice none 0 0)) ∧ Mod [] w w' := by
  have c6 := h.cs.c6
  have c7 := h.cs.c7
  have lg : A.g < w.heap.size := World.block_lt_of_cell? _ _ c6
  clear h
  unfold L14.frV
  dsimp only
  go_enter Tryz.func258, Tryz.ntmps258
  go_wp2_with fail
  go_region
  go_wp2_with fail
  exact bodyPost_ret (L14.res_fr Tryz.results258 rfl (MapKept.heap_alloc w _).1) rfl ⟨rfl, (L14.al_mod w _).drew⟩
theorem Eg.place (h : Eg w A T E) (d i : Int) (hd : I64 d) (hi : I64 i) : Eg ((w.setCell ⟨A.g, 6, none⟩ (.int .i64 d)).setCell ⟨A.g, 7, none⟩ (.int .i64 i)) A T { E with d := d, i := i } ∧ Tn T T w ((w.setCell ⟨A.g, 6, none⟩ (.int .i64 d)).setCell ⟨A.g, 7, none⟩ (.int .i64 i)) := by
  obtain ⟨h1, t1⟩ := h.set6 d hd
  obtain ⟨h2, t2⟩ := h1.set7 i hi
  exact ⟨h2, t1.trans t2⟩
theorem goto_calls (h : Eg w A T E) (d i : Int) (hd : I64 d) (hi : I64 i) : Calls Tryz.prog 117 #[Pt A.g, .int .i64 d, .int .i64 i] w (Plays A T w (.tuple #[]) (goToE d i E)) := by
  have c6 := h.cs.c6
  have c7 := h.cs.c7
  have f6 := h.cs.f6
  have f7 := h.cs.f7
  have HH := Lib.hid h
  have HD := Lib.hid (And.intro hd hi)
  by_cases h0 : d = 0
  · subst h0
    have hb : ((0 : Int) == 0) = true := rfl
    clear h hd hi
    go_enter Tryz.func117, Tryz.ntmps117
    go_wp2_with fail
    obtain ⟨h1, t1⟩ := HH.out.place 0 i i64_0 HD.out.2
    obtain ⟨h2, t2⟩ := h1.place 0 0 i64_0 i64_0
    exact bodyPost_end (v := .tuple #[]) (results_none rfl _ _ _) rfl ⟨rfl, _, h2, t1.trans t2⟩
  · have hb : (d == 0) = false := by simpa using h0
    clear h hd hi
    have HO := Lib.hid h0
    clear h0
    go_enter Tryz.func117, Tryz.ntmps117
    go_wp2_with fail
    obtain ⟨h1, t1⟩ := HH.out.place d i HD.out.1 HD.out.2
    unfold goToE
    rw [if_neg HO.out]
    exact bodyPost_end (v := .tuple #[]) (results_none rfl _ _ _) rfl ⟨rfl, _, h1, t1⟩
theorem exec_yes (h : Eg w A T E) (n : Int) (hn : (E.word n).isSome = true) : Calls Tryz.prog 19 #[Pt A.g, .int .i64 n] w (Plays A T w (.int .i64 0) { E with nx := n }) := by
  have H := isword_calls h n
  rw [hn] at H
  have hI : I64 n := by
    rw [Es.word_iff] at hn
    have := h.ok.wl
    have := of_decide_eq_true hn
    unfold I64; omega
  have H := Lib.hid H
  have c8 := h.cs.c8
  have f8 := h.cs.f8
  have HP := Lib.hid (h.set8 n hI)
  clear h hn hI
  go_enter Tryz.func19, Tryz.ntmps19
  go_wp2_with fail
  refine (H.out).mono ?_
  rintro e w1 ⟨rfl, rfl⟩
  go_wp2_with fail
  go_ret
  exact ⟨rfl, _, HP.out.1, HP.out.2⟩
theorem exec_no (h : Eg w A T E) (n : Int) (hn : (E.word n).isSome = false) : Calls Tryz.prog 19 #[Pt A.g, .int .i64 n] w fun e w' => e = .returned (.int .i64 2) ∧ w = w' := by
  have H := isword_calls h n
  rw [hn] at H
  have H := Lib.hid H
  clear h hn
  go_enter Tryz.func19, Tryz.ntmps19
  go_wp2_with fail
  refine (H.out).mono ?_
  rintro e w1 ⟨rfl, rfl⟩
  go_wp2_with fail
  go_ret
  exact ⟨rfl, rfl⟩
theorem forward_calls (h : Eg w A T E) (n : Int) : Calls Tryz.prog 113 #[Pt A.g, .int .i64 n] w (Plays A T w (.int .i64 (forwardE n E).1) (forwardE n E).2) := by
  have HH := Lib.hid h
  unfold forwardE
  by_cases h0 : n = 0
  · subst h0
    have hb : ((0 : Int) == 0) = true := rfl
    rw [if_pos rfl]
    clear h
    go_enter Tryz.func113, Tryz.ntmps113
    go_wp2_with fail
    go_ret
    exact Plays.of HH.out (Mod.refl [] w) _
  · have hb : (n == 0) = false := by simpa using h0
    rw [if_neg h0]
    cases hw : (E.word n).isSome with
    | true =>
      have H := Lib.hid (exec_yes h n hw)
      clear h h0 hw
      rw [if_pos rfl]
      go_enter Tryz.func113, Tryz.ntmps113
      go_wp2_with fail
      refine (H.out).mono ?_
      rintro e w1 ⟨rfl, T1, h1, t1⟩
      have HP := Lib.hid (And.intro h1 t1)
      clear h1 t1 H
      go_wp2_with fail
      go_ret
      exact ⟨rfl, _, HP.out.1, HP.out.2⟩
    | false =>
      have H := Lib.hid (exec_no h n hw)
      clear h h0 hw
      rw [if_neg (by decide)]
      go_enter Tryz.func113, Tryz.ntmps113
      go_wp2_with fail
      refine (H.out).mono ?_
      rintro e w1 ⟨rfl, rfl⟩
      go_wp2_with fail
      go_ret
      exact Plays.of HH.out (Mod.refl [] w) _
end
end Go.Proofs.YtifnkmddinoneaaGreatDoor
namespace Go.Proofs.YtifnkmddinoneaaGreatDoor
open Go.RowKit
set_option linter.unusedVariables false
section
variable {w w' : World} {A : Ag} {E : Es} {T : List Nat}
theorem code_i64 (h : Eg w A T E) (n : Int) (hn : (E.code n).isSome = true) : I64 n := by
  rw [Es.code_iff] at hn
  have := h.ok.d
  have := of_decide_eq_true hn
  unfold I64; omega
set_option maxHeartbeats 1000000 in
theorem call_calls (h : Eg w A T E) (n : Int) : Calls Tryz.prog 111 #[Pt A.g, .int .i64 n] w (Plays A T w (.int .i64 (callE n E).1) (callE n E).2) := by
  have H1 := isdef_calls h n
  have HH := Lib.hid h
  unfold callE
  cases hc : (E.code n).isSome with
  | false =>
    rw [hc] at H1
    have H1 := Lib.hid H1
    rw [if_neg (by decide)]
    clear h hc
    go_enter Tryz.func111, Tryz.ntmps111
    go_wp2_with fail
    refine (H1.out).mono ?_
    rintro e w1 ⟨rfl, rfl⟩
    go_wp2_with fail
    go_ret
    exact Plays.of HH.out (Mod.refl [] w) _
  | true =>
    rw [hc] at H1
    have H1 := Lib.hid H1
    have hI := code_i64 h n hc
    have H2 := Lib.hid (fun W (m : Mod [] w W) => back_calls (h.far m))
    have c5 := h.cs.c5
    have H3 := Lib.hid (fun W (m : Mod [] w W) => (h.far m).fpush (q := ⟨1, E.d, E.i, 0, 0, []⟩) (L14.Lc.nil W).ls (by simp) ⟨h.ok.di.1, h.ok.di.2.1, i64_0, i64_0, by simp⟩)
    unfold frameE L14.pushE L14.pushL at H3
    dsimp only at H3
    rw [if_pos rfl]
    by_cases hl : 128 ≤ E.F.length
    · rw [if_pos hl, if_pos hl] at H3
      rw [if_pos hl]
      clear h hc hI hl
      go_enter Tryz.func111, Tryz.ntmps111
      go_wp2_with fail
      refine (H1.out).mono ?_
      rintro e w1 ⟨rfl, rfl⟩
      go_wp2_with fail
      have hD := (Mod.refl [] w).drew
      go_region_held3 (fun W => W.cell? ⟨A.g, 5, none⟩ = some (Pt A.f)) (first | with_reducible exact hD.cell (x := ⟨A.g, 5, none⟩) (by simp) c5 | with_reducible exact k2.cell (x := ⟨A.g, 5, none⟩) (by simp) (hD.cell (x := ⟨A.g, 5, none⟩) (by simp) c5) | with_reducible exact h3.cs.c5 | fail)
        (first | ((with_reducible refine (H2.out _ hD).mono ?_); rintro e w2 ⟨rfl, k2⟩) | ((with_reducible refine (H3.out _ (hD.trans k2)).mono ?_); rintro e w3 ⟨rfl, T3, h3, t3⟩) | fail)
      have HP := Lib.hid (And.intro h3 ((Tn.far (hD.trans k2)).trans t3))
      clear h3 t3 k2 hD c5 H1 H2 H3
      go_wp2_with fail
      go_ret
      exact ⟨rfl, _, HP.out.1, HP.out.2⟩
    · rw [if_neg hl, if_neg hl] at H3
      rw [if_neg hl]
      clear h hc hl
      have HI := Lib.hid hI
      clear hI
      go_enter Tryz.func111, Tryz.ntmps111
      go_wp2_with fail
      refine (H1.out).mono ?_
      rintro e w1 ⟨rfl, rfl⟩
      go_wp2_with fail
      have hD := (Mod.refl [] w).drew
      go_region_held3 (fun W => W.cell? ⟨A.g, 5, none⟩ = some (Pt A.f)) (first | with_reducible exact hD.cell (x := ⟨A.g, 5, none⟩) (by simp) c5 | with_reducible exact k2.cell (x := ⟨A.g, 5, none⟩) (by simp) (hD.cell (x := ⟨A.g, 5, none⟩) (by simp) c5) | with_reducible exact h3.cs.c5 | fail)
        (first | ((with_reducible refine (H2.out _ hD).mono ?_); rintro e w2 ⟨rfl, k2⟩) | ((with_reducible refine (H3.out _ (hD.trans k2)).mono ?_); rintro e w3 ⟨rfl, T3, h3, t3⟩) | fail)
      have H4 := Lib.hid (goto_calls h3 n 0 HI.out i64_0)
      have e4 : goToE n 0 { E with F := E.F ++ [⟨1, E.d, E.i, 0, 0, []⟩] } = { E with F := E.F ++ [⟨1, E.d, E.i, 0, 0, []⟩], d := n, i := 0 } := by unfold goToE; simp
      have HP := Lib.hid ((Tn.far (hD.trans k2)).trans t3)
      rw [e4] at H4
      clear h3 t3 k2 hD c5 H1 H2 H3 e4
      go_wp2_with fail
      refine (H4.out).mono ?_
      rintro e w4 ⟨rfl, T4, h4, t4⟩
      have HQ := Lib.hid (And.intro h4 t4)
      clear h4 t4 H4
      go_wp2_with fail
      go_ret
      exact ⟨rfl, _, HQ.out.1, HP.out.trans HQ.out.2⟩
set_option maxHeartbeats 1000000 in
theorem callwith_calls (h : Eg w A T E) (x n : Int) (hx : I64 x) : Calls Tryz.prog 112 #[Pt A.g, .int .i64 x, .int .i64 n] w (Plays A T w (.int .i64 (doesE x n E).1) (doesE x n E).2) := by
  have H1 := isdef_calls h n
  have HH := Lib.hid h
  unfold doesE
  cases hc : (E.code n).isSome with
  | false =>
    rw [hc] at H1
    have H1 := Lib.hid H1
    rw [if_neg (by decide)]
    clear h hc
    go_enter Tryz.func112, Tryz.ntmps112
    go_wp2_with fail
    refine (H1.out).mono ?_
    rintro e w1 ⟨rfl, rfl⟩
    go_wp2_with fail
    go_ret
    exact Plays.of HH.out (Mod.refl [] w) _
  | true =>
    rw [hc] at H1
    have H1 := Lib.hid H1
    have H2 := epush_calls h x hx
    unfold pushE putL at H2
    simp only [List.length_singleton] at H2
    rw [if_pos rfl]
    by_cases hl : 128 ≤ E.C.length
    · rw [if_neg (show ¬ E.C.length + 1 ≤ 128 by omega)] at H2
      rw [if_pos hl]
      have H2 := Lib.hid H2
      clear h hc hl
      go_enter Tryz.func112, Tryz.ntmps112
      go_wp2_with fail
      refine (H1.out).mono ?_
      rintro e w1 ⟨rfl, rfl⟩
      go_wp2_with fail
      refine (H2.out).mono ?_
      rintro e w2 ⟨rfl, T2, h2, t2⟩
      have HP := Lib.hid (And.intro h2 t2)
      clear h2 t2 H1 H2
      go_wp2_with fail
      go_ret
      exact ⟨rfl, _, HP.out.1, HP.out.2⟩
    · rw [if_pos (show E.C.length + 1 ≤ 128 by omega)] at H2
      rw [if_neg hl]
      have H2 := Lib.hid H2
      have hc' : ∀ C : List Int, (({ E with C := C } : Es).code n).isSome = true := fun _ => hc
      have HC := Lib.hid hc'
      by_cases hf : 128 ≤ E.F.length
      · rw [if_pos hf]
        have HF := Lib.hid hf
        clear h hc hl hf hc'
        go_enter Tryz.func112, Tryz.ntmps112
        go_wp2_with fail
        refine (H1.out).mono ?_
        rintro e w1 ⟨rfl, rfl⟩
        go_wp2_with fail
        refine (H2.out).mono ?_
        rintro e w2 ⟨rfl, T2, h2, t2⟩
        have H3 := call_calls h2 n
        unfold callE at H3
        rw [if_pos (HC.out _), if_pos HF.out] at H3
        have H3 := Lib.hid H3
        have HP := Lib.hid t2
        clear h2 t2 H1 H2
        go_wp2_with fail
        refine (H3.out).mono ?_
        rintro e w3 ⟨rfl, T3, h3, t3⟩
        have H4 := Lib.hid (estack_calls h3)
        have H5 := Lib.hid (h3.spop (R := E.C) (x := x) rfl)
        have HQ := Lib.hid t3
        clear h3 t3 H3
        go_wp2_with fail
        refine (H4.out).mono ?_
        rintro e w4 ⟨rfl, rfl⟩
        go_wp2_with fail
        refine (H5.out).mono ?_
        rintro e w4 ⟨rfl, T4, h4, t4⟩
        have HR := Lib.hid (And.intro h4 t4)
        clear h4 t4 H4 H5
        go_wp2_with fail
        go_ret
        exact ⟨rfl, _, HR.out.1, (HP.out.trans HQ.out).trans HR.out.2⟩
      · rw [if_neg hf]
        have HF := Lib.hid hf
        clear h hc hl hf hc'
        go_enter Tryz.func112, Tryz.ntmps112
        go_wp2_with fail
        refine (H1.out).mono ?_
        rintro e w1 ⟨rfl, rfl⟩
        go_wp2_with fail
        refine (H2.out).mono ?_
        rintro e w2 ⟨rfl, T2, h2, t2⟩
        have H3 := call_calls h2 n
        unfold callE at H3
        rw [if_pos (HC.out _), if_neg HF.out] at H3
        have H3 := Lib.hid H3
        have HP := Lib.hid t2
        clear h2 t2 H1 H2
        go_wp2_with fail
        refine (H3.out).mono ?_
        rintro e w3 ⟨rfl, T3, h3, t3⟩
        have HR := Lib.hid (And.intro h3 t3)
        clear h3 t3 H3
        go_wp2_with fail
        go_ret
        exact ⟨rfl, _, HR.out.1, HP.out.trans HR.out.2⟩
end
end Go.Proofs.YtifnkmddinoneaaGreatDoor
namespace Go.Proofs.YtifnkmddinoneaaGreatDoor
open Go.RowKit
set_option linter.unusedVariables false
section
variable {w w' : World} {A : Ag} {E : Es} {T : List Nat}
def DoesTo (A : Ag) (D : FuncId) (q : Array Value) (w : World) (T : List Nat) (E1 : Es) (X : List Int) (n : Nat) (p : Int × Es) : Prop :=
  ∀ W T1 b c, Eg W A T1 E1 → Tn T T1 w W → Ow W b X c → w.heap.size ≤ b → b ∉ T1 → Calls Tryz.prog D (#[.slice (some ⟨b, 0, none⟩) n c] ++ q) W fun e w' => e = .returned (.int .i64 p.1) ∧ ∃ T2, Eg w' A T2 p.2 ∧ Tn T1 T2 W w'
def Enters (D : FuncId) : Prop := ∀ (xs : Array Value) (W : World), (callFunc D xs).run Tryz.prog W = .ok (.enter D xs) W
set_option maxHeartbeats 2000000 in
set_option maxRecDepth 100000 in
theorem taking_calls (h : Eg w A T E) (n : Nat) (hn : n ≤ 1000) (D : FuncId) (q : Array Value) (hen : Enters D) (f : List Int → Es → Int × Es)
    (HD : n ≤ E.C.length → DoesTo A D q w T { E with C := E.C.take (E.C.length - n) } (E.C.drop (E.C.length - n)) n (f (E.C.drop (E.C.length - n)) { E with C := E.C.take (E.C.length - n) })) :
    Calls Tryz.prog 238 #[Pt A.g, .int .i64 (n : Int), .func (.func D) #[] q] w (Plays A T w (.int .i64 (takingE n f E).1) (takingE n f E).2) := by
  have H1 := Lib.hid (estack_calls h)
  have HH := Lib.hid h
  unfold takingE
  by_cases hl : E.C.length < n
  · have H2 := Lib.hid (h.stake0 n hl hn)
    rw [if_pos hl]
    clear h HD hl hen hn
    go_enter Tryz.func238, Tryz.ntmps238
    go_wp2_with fail
    refine (H1.out).mono ?_
    rintro e w1 ⟨rfl, rfl⟩
    go_wp2_with fail
    refine (H2.out).mono ?_
    rintro e w1 ⟨rfl, rfl⟩
    go_wp2_with fail
    go_ret
    exact Plays.of HH.out (Mod.refl [] w) _
  · rw [if_neg hl]
    have hl' : n ≤ E.C.length := by omega
    have H2 := Lib.hid (h.stake n hl')
    have hD := HD hl'
    have hI : ∀ x ∈ E.C.drop (E.C.length - n), I64 x := fun x hx => h.i64 x (List.mem_of_mem_drop hx)
    have hX : (E.C.drop (E.C.length - n)).length = n := by simp; omega
    generalize E.C.drop (E.C.length - n) = X at *
    generalize ({ E with C := E.C.take (E.C.length - n) } : Es) = E1 at *
    generalize f X E1 = p at *
    have HDD := Lib.hid hD
    have HE := Lib.hid hen
    have HX := Lib.hid (And.intro hI (And.intro hX hn))
    clear h HD hl hl' hD hI hX hen hn
    obtain ⟨p1, p2⟩ := p
    dsimp only
    by_cases hp : p1 = 0
    · subst hp
      have hb0 : ((0 : Int) != 0) = false := rfl
      rw [if_pos rfl]
      go_enter Tryz.func238, Tryz.ntmps238
      go_wp2_with fail
      refine (H1.out).mono ?_
      rintro e w1 ⟨rfl, rfl⟩
      go_wp2_with fail
      refine (H2.out).mono ?_
      rintro e w2 ⟨b, c, T2, rfl, ho, hb, hlt, hbT, h2, t2⟩
      have HC := Lib.hid (HDD.out w2 T2 b c h2 t2 ho hb hbT)
      have HO := Lib.hid (And.intro ho (And.intro hbT (And.intro t2 hlt)))
      have he := HE.out (#[.slice (some ⟨b, 0, none⟩) n c] ++ q) w2
      clear H1 H2 h2 t2 ho hb hlt hbT HDD HE
      go_wp2_with fail
      refine HC.out.mono ?_
      rintro e w3 ⟨rfl, T3, h3, t3⟩

      have HP := Lib.hid (And.intro h3 (HO.out.2.2.1.trans t3))
      clear h3 t3 he HC
      go_wp2_with fail
      go_ret
      exact ⟨rfl, _, HP.out.1, HP.out.2⟩
    · have hb0 : (p1 != 0) = true := by simpa using hp
      rw [if_neg hp]
      clear hp
      go_enter Tryz.func238, Tryz.ntmps238
      go_wp2_with fail
      refine (H1.out).mono ?_
      rintro e w1 ⟨rfl, rfl⟩
      go_wp2_with fail
      refine (H2.out).mono ?_
      rintro e w2 ⟨b, c, T2, rfl, ho, hb, hlt, hbT, h2, t2⟩
      have HC := Lib.hid (HDD.out w2 T2 b c h2 t2 ho hb hbT)
      have HO := Lib.hid (And.intro ho (And.intro hbT (And.intro t2 hlt)))
      have he := HE.out (#[.slice (some ⟨b, 0, none⟩) n c] ++ q) w2
      clear H1 H2 h2 t2 ho hb hlt hbT HDD HE
      go_wp2_with fail
      refine HC.out.mono ?_
      rintro e w3 ⟨rfl, T3, h3, t3⟩

      have hs : Sl w3 (some ⟨b, 0, none⟩) X := (HO.out.1.mod t3.m HO.out.2.1).sl
      have H4 := Lib.hid (estack_calls h3)
      have H5 := Lib.hid (h3.sput c hs HX.out.2.1.symm HX.out.1 (by have := HX.out.2.2; omega))
      have HP := Lib.hid (HO.out.2.2.1.trans t3)
      clear h3 t3 he HC hs
      go_wp2_with fail
      refine (H4.out).mono ?_
      rintro e w4 ⟨rfl, rfl⟩
      go_wp2_with fail
      refine (H5.out).mono ?_
      rintro e w4 ⟨rfl, T4, h4, t4⟩
      have HR := Lib.hid (And.intro h4 t4)
      clear h4 t4 H4 H5
      go_wp2_with fail
      go_ret
      exact ⟨rfl, _, HR.out.1, HP.out.trans HR.out.2⟩
def FrameOf (O : FuncId) (X : List Int) (n : Nat) (fr : L14.Fm) : Prop := ∀ W b c, Ow W b X c → Calls Tryz.prog O #[.slice (some ⟨b, 0, none⟩) n c] W fun e w' => ∃ s, e = .returned (L14.frV fr s) ∧ L14.Ls w' s fr.l ∧ Mod [] W w'
set_option maxHeartbeats 2000000 in
set_option maxRecDepth 100000 in
theorem pushframe_inner (O : FuncId) (hen : Enters O) (bg bo : Nat) (hg : w.cell? ⟨bg, 0, none⟩ = some (Pt A.g)) (ho : w.cell? ⟨bo, 0, none⟩ = some (.func (.func O) #[] #[])) (lg : bg ∉ T) (lo : bo ∉ T) (X : List Int) (n : Nat) (E1 : Es) (fr : L14.Fm) (hfr : FrameOf O X n fr) (hl : fr.l.length ≤ 1000) (hok : OkF fr) :
    DoesTo A 299 #[Pt bg, Pt bo] w T E1 X n (frameE fr E1) := by
  intro W T1 b c h1 t1 hO hb hbT
  have g0 := t1.m.cell (x := ⟨bg, 0, none⟩) lg hg
  have o0 := t1.m.cell (x := ⟨bo, 0, none⟩) lo ho
  have lg1 := (t1.keeps lg (World.block_lt_of_cell? _ _ hg)).2.1
  have lo1 := (t1.keeps lo (World.block_lt_of_cell? _ _ ho)).2.1
  have hD := (Mod.refl [] W).drew
  have c5 := h1.cs.c5
  have H1 := Lib.hid (hfr W.drew b c (hO.mod hD (by simp)))
  have H2 := Lib.hid (fun W2 s (m : Mod [] W W2) (hs : L14.Ls W2 s fr.l) => (h1.far m).fpush (q := fr) hs hl hok)
  have he := hen #[.slice (some ⟨b, 0, none⟩) n c] W.drew
  obtain ⟨R, hR⟩ : ∃ R, R = frameE fr E1 := ⟨_, rfl⟩
  rw [← hR] at H2 ⊢
  show Calls Tryz.prog 299 #[.slice (some ⟨b, 0, none⟩) n c, Pt bg, Pt bo] W _
  have H1' := Lib.hid h1
  clear hen hg ho lg lo hfr hl hok t1 hO hb hbT hR h1
  go_enter Tryz.func299, Tryz.ntmps299
  go_wp2_with fail
  go_region_held3 (fun W => W.cell? ⟨A.g, 5, none⟩ = some (Pt A.f) ∧ W.cell? ⟨bg, 0, none⟩ = some (Pt A.g) ∧ W.cell? ⟨bo, 0, none⟩ = some (.func (.func O) #[] #[])) (first | with_reducible exact ⟨hD.cell (x := ⟨A.g, 5, none⟩) (by simp) c5, hD.cell (x := ⟨bg, 0, none⟩) (by simp) g0, hD.cell (x := ⟨bo, 0, none⟩) (by simp) o0⟩ | with_reducible exact ⟨k2.cell (x := ⟨A.g, 5, none⟩) (by simp) (hD.cell (x := ⟨A.g, 5, none⟩) (by simp) c5), k2.cell (x := ⟨bg, 0, none⟩) (by simp) (hD.cell (x := ⟨bg, 0, none⟩) (by simp) g0), k2.cell (x := ⟨bo, 0, none⟩) (by simp) (hD.cell (x := ⟨bo, 0, none⟩) (by simp) o0)⟩ | with_reducible exact ⟨h3.cs.c5, t3.m.cell (x := ⟨bg, 0, none⟩) lg1 (k2.cell (x := ⟨bg, 0, none⟩) (by simp) (hD.cell (x := ⟨bg, 0, none⟩) (by simp) g0)), t3.m.cell (x := ⟨bo, 0, none⟩) lo1 (k2.cell (x := ⟨bo, 0, none⟩) (by simp) (hD.cell (x := ⟨bo, 0, none⟩) (by simp) o0))⟩ | fail)
    (first | ((with_reducible refine (H1.out).mono ?_); rintro e w2 ⟨s, rfl, hls, k2⟩) | ((with_reducible refine (H2.out _ s (hD.trans k2) hls).mono ?_); rintro e w3 ⟨rfl, T3, h3, t3⟩) | fail)
  have HP := Lib.hid (And.intro h3 ((Tn.far (hD.trans k2)).trans t3))
  clear h3 t3 k2 hD c5 H1 H2 g0 o0 hls he lg1 lo1
  go_wp2_with fail
  go_ret
  exact ⟨rfl, _, HP.out.1, HP.out.2⟩
theorem new_box (h : Eg w A T E) (v : Value) (t : TypeId) : w.heap.size ∉ T ∧ (w.alloc (.cells #[v] t)).cell? ⟨w.heap.size, 0, none⟩ = some v :=
  ⟨fun hx => by have := h.tl _ hx; omega, L14.cell_eq (MapKept.heap_alloc w _).1 0⟩
set_option maxHeartbeats 2000000 in
theorem pushframe_calls (h : Eg w A T E) (n : Nat) (hn : n ≤ 1000) (O : FuncId) (hen : Enters O) (fr : List Int → L14.Fm) (hfr : ∀ X : List Int, X.length = n → FrameOf O X n (fr X)) (hl : ∀ X : List Int, X.length = n → (fr X).l.length ≤ 1000) (hok : ∀ X : List Int, X.length = n → (∀ x ∈ X, I64 x) → OkF (fr X)) :
    Calls Tryz.prog 229 #[Pt A.g, .int .i64 (n : Int), .func (.func O) #[] #[]] w (Plays A T w (.int .i64 (takingE n (fun l E => frameE (fr l) E) E).1) (takingE n (fun l E => frameE (fr l) E) E).2) := by
  have b1 := new_box h (Pt A.g) 27
  have h1 := h.far (L14.al_mod w (.cells #[Pt A.g] 27))
  have b2 := new_box h1 (.func (.func O) #[] #[]) 215
  have h2 := h1.far (L14.al_mod _ (.cells #[.func (.func O) #[] #[]] 215))
  have b1' := (L14.al_mod (w.alloc (.cells #[Pt A.g] 27)) (.cells #[.func (.func O) #[] #[]] 215)).cell (x := ⟨w.heap.size, 0, none⟩) (by simp) b1.2
  have hz := L14.size_allocI w (.cells #[Pt A.g] 27)
  rw [hz] at b2
  have H := Lib.hid (taking_calls h2 n hn 299 #[Pt w.heap.size, Pt (w.heap.size + 1)] (fun xs W => by kernel_rfl) (fun l E => frameE (fr l) E) fun hle => pushframe_inner O hen _ _ b1' b2.2 b1.1 b2.1 _ n _ (fr _) (hfr _ (by simp; omega)) (hl _ (by simp; omega)) (hok _ (by simp; omega) fun x hx => h.i64 x (List.mem_of_mem_drop hx)))
  obtain ⟨R, hR⟩ : ∃ R, R = takingE n (fun l E => frameE (fr l) E) E := ⟨_, rfl⟩
  rw [← hR] at H ⊢
  clear h h1 h2 b1 b2 b1' hen hfr hl hok hR
  go_enter Tryz.func229, Tryz.ntmps229
  go_wp2_with fail
  refine (H.out).mono ?_
  rintro e w2 ⟨rfl, T2, h2, t2⟩
  have HP := Lib.hid (And.intro h2 t2)
  clear h2 t2 H
  go_wp2_with fail
  go_ret
  exact ⟨rfl, _, HP.out.1, (Tn.far ((L14.al_mod w _).trans (L14.al_mod _ _))).trans HP.out.2⟩
end
end Go.Proofs.YtifnkmddinoneaaGreatDoor
namespace Go.Proofs.YtifnkmddinoneaaGreatDoor
open Go.RowKit
set_option linter.unusedVariables false
section
variable {w w' : World} {A : Ag} {E : Es} {T : List Nat}
theorem list1 {X : List Int} (h : X.length = 1) : ∃ x, X = [x] := by
  match X, h with
  | [x], _ => exact ⟨x, rfl⟩
theorem list2 {X : List Int} (h : X.length = 2) : ∃ x y, X = [x, y] := by
  match X, h with
  | [x, y], _ => exact ⟨x, y, rfl⟩
theorem frame_tor (X : List Int) (hX : X.length = 1) : FrameOf 230 X 1 ⟨2, 0, 0, X.headD 0, 0, []⟩ := by
  obtain ⟨x, rfl⟩ := list1 hX
  intro W b c ho
  have g0 : W.cell? ⟨b, 0, none⟩ = some (.int .i64 x) := ho.cell 0 (by simp)
  have lb := ho.lt
  clear ho hX
  unfold L14.frV
  dsimp only [List.headD]
  go_enter Tryz.func230, Tryz.ntmps230
  go_wp2_with fail
  exact bodyPost_ret (L14.res_fr Tryz.results230 rfl (MapKept.heap_alloc W _).1) rfl ⟨_, rfl, (L14.Lc.nil _).ls, L14.al_mod W _⟩
theorem frame_loop (X : List Int) (hX : X.length = 2) : FrameOf 240 X 2 ⟨3, 0, 0, X.getD 1 0, X.headD 0, []⟩ := by
  obtain ⟨x, y, rfl⟩ := list2 hX
  intro W b c ho
  have g0 : W.cell? ⟨b, 0, none⟩ = some (.int .i64 x) := ho.cell 0 (by simp)
  have g1 : W.cell? ⟨b, 1, none⟩ = some (.int .i64 y) := ho.cell 1 (by simp)
  have lb := ho.lt
  clear ho hX
  unfold L14.frV
  dsimp only [List.headD, List.getD, List.getElem?_cons_succ, List.getElem?_cons_zero, Option.getD]
  go_enter Tryz.func240, Tryz.ntmps240
  go_wp2_with fail
  go_region
  go_wp2_with fail
  exact bodyPost_ret (L14.res_fr Tryz.results240 rfl (MapKept.heap_alloc W _).1) rfl ⟨_, rfl, (L14.Lc.nil _).ls, (L14.al_mod W _).drew⟩
theorem frame_locals (n : Nat) (hn : n ≤ 1000) (X : List Int) (hX : X.length = n) : FrameOf 245 X n ⟨4, 0, 0, 0, 0, X⟩ := by
  intro W b c ho
  have lb := ho.lt
  have HO := Lib.hid ho
  clear ho
  unfold L14.frV
  dsimp only
  go_enter Tryz.func245, Tryz.ntmps245
  go_wp2_with fail
  refine bodyPost_ret (L14.res_fr Tryz.results245 rfl (MapKept.heap_alloc W _).1) rfl ⟨_, rfl, ?_, L14.al_mod W _⟩
  subst hX
  exact (L14.Lc.ls (Or.inr ⟨b, c, rfl, HO.out.mod (L14.al_mod W _) (by simp)⟩))
theorem advance_calls (h : Eg w A T E) (s a : Int) (ha : I64 a) : Calls Tryz.prog 242 #[Pt A.g, .int .i64 s, .int .i64 a] w (Plays A T w (.int .i64 (stepF s a E).1) (stepF s a E).2) := by
  have c5 := h.cs.c5
  have H1 := h.fstep s
  unfold stepF
  unfold L14.errK at H1
  have ht : (L14.topK 3 E.F).isSome = false → L14.stepL s E.F = E.F := fun e => by
    unfold L14.stepL
    cases hk : L14.topK 3 E.F with
    | none => rfl
    | some q => rw [hk] at e; cases e
  cases hk : (L14.topK 3 E.F).isSome with
  | false =>
    rw [hk, ht hk] at H1
    rw [if_neg (by decide)] at H1 ⊢
    obtain ⟨b, hb⟩ : ∃ b, b = L14.stepEnd s E.F := ⟨_, rfl⟩
    rw [← hb] at H1
    have H1 := Lib.hid H1
    clear h hk ht hb
    go_enter Tryz.func242, Tryz.ntmps242
    go_wp2_with fail
    refine (H1.out).mono ?_
    rintro e w2 ⟨rfl, T2, h2, t2⟩
    have HP := Lib.hid (And.intro h2 t2)
    clear h2 t2 H1
    go_wp2_with fail
    go_ret
    exact ⟨rfl, _, HP.out.1, HP.out.2⟩
  | true =>
    rw [hk] at H1
    rw [if_pos rfl] at H1 ⊢
    obtain ⟨b, hb⟩ : ∃ b, b = L14.stepEnd s E.F := ⟨_, rfl⟩
    rw [← hb] at H1 ⊢
    have H1 := Lib.hid H1
    have HA := Lib.hid ha
    clear h hk ht hb ha
    cases b with
    | true =>
      rw [if_pos rfl]
      go_enter Tryz.func242, Tryz.ntmps242
      go_wp2_with fail
      refine (H1.out).mono ?_
      rintro e w2 ⟨rfl, T2, h2, t2⟩
      have HP := Lib.hid (And.intro h2 t2)
      clear h2 t2 H1
      go_wp2_with fail
      go_ret
      exact ⟨rfl, _, HP.out.1, HP.out.2⟩
    | false =>
      rw [if_neg (by decide)]
      go_enter Tryz.func242, Tryz.ntmps242
      go_wp2_with fail
      refine (H1.out).mono ?_
      rintro e w2 ⟨rfl, T2, h2, t2⟩
      have c7 := h2.cs.c7
      have f7 := h2.cs.f7
      have HP := Lib.hid (And.intro (h2.set7 a HA.out) t2)
      clear h2 t2 H1
      go_wp2_with fail
      go_ret
      exact ⟨rfl, _, HP.out.1.1, HP.out.2.trans HP.out.1.2⟩
theorem takeword0 (h : Eg w A T E) (hC : E.C = []) : Calls Tryz.prog 234 #[Pt A.g] w fun e w' => e = .returned (.tuple #[.int .i64 0, .int .i64 (-4)]) ∧ w = w' := by
  have H1 := Lib.hid (estack_calls h)
  have H2 := Lib.hid (h.spop0 hC)
  clear h hC
  go_enter Tryz.func234, Tryz.ntmps234
  go_wp2_with fail
  refine (H1.out).mono ?_
  rintro e w1 ⟨rfl, rfl⟩
  go_wp2_with fail
  refine (H2.out).mono ?_
  rintro e w1 ⟨rfl, rfl⟩
  go_wp2_with fail
  go_ret2
  exact ⟨rfl, rfl⟩
theorem takeword1 (h : Eg w A T E) {R : List Int} {x : Int} (hC : E.C = R ++ [x]) : Calls Tryz.prog 234 #[Pt A.g] w (Plays A T w (.tuple #[.int .i64 (if (E.word x).isSome then x else 0), .int .i64 (if (E.word x).isSome then 0 else -9)]) { E with C := R }) := by
  have H1 := Lib.hid (estack_calls h)
  have H2 := Lib.hid (h.spop hC)
  have H3 := Lib.hid (fun W T' (h' : Eg W A T' { E with C := R }) => isword_calls h' x)
  obtain ⟨b, hb⟩ : ∃ b, b = (E.word x).isSome := ⟨_, rfl⟩
  replace H3 : RowKit.Hid (∀ W T', Eg W A T' { E with C := R } → Calls Tryz.prog 44 #[Pt A.g, .int .i64 x] W fun e w' => e = .returned (.bool b) ∧ W = w') := by rw [hb]; exact H3
  rw [← hb]
  clear h hC hb
  cases b with
  | false =>
    rw [if_neg (by decide), if_neg (by decide)]
    go_enter Tryz.func234, Tryz.ntmps234
    go_wp2_with fail
    refine (H1.out).mono ?_
    rintro e w1 ⟨rfl, rfl⟩
    go_wp2_with fail
    refine (H2.out).mono ?_
    rintro e w2 ⟨rfl, T2, h2, t2⟩
    have H4 := Lib.hid (H3.out w2 T2 h2)
    have HP := Lib.hid (And.intro h2 t2)
    clear h2 t2 H1 H2 H3
    go_wp2_with fail
    refine (H4.out).mono ?_
    rintro e w3 ⟨rfl, rfl⟩
    go_wp2_with fail
    go_ret2
    exact ⟨rfl, _, HP.out.1, HP.out.2⟩
  | true =>
    rw [if_pos rfl, if_pos rfl]
    go_enter Tryz.func234, Tryz.ntmps234
    go_wp2_with fail
    refine (H1.out).mono ?_
    rintro e w1 ⟨rfl, rfl⟩
    go_wp2_with fail
    refine (H2.out).mono ?_
    rintro e w2 ⟨rfl, T2, h2, t2⟩
    have H4 := Lib.hid (H3.out w2 T2 h2)
    have HP := Lib.hid (And.intro h2 t2)
    clear h2 t2 H1 H2 H3
    go_wp2_with fail
    refine (H4.out).mono ?_
    rintro e w3 ⟨rfl, rfl⟩
    go_wp2_with fail
    go_ret2
    exact ⟨rfl, _, HP.out.1, HP.out.2⟩
end
end Go.Proofs.YtifnkmddinoneaaGreatDoor
namespace Go.Proofs.YtifnkmddinoneaaGreatDoor
open Go.RowKit
set_option linter.unusedVariables false
section
variable {w w' : World} {A : Ag} {E : Es} {T : List Nat}
theorem Eg.in_le (h : Eg w A T E) : 0 ≤ inE E.I ∧ inE E.I ≤ 1000 := by
  obtain ⟨v, Ts, Tf, Ti, h⟩ := h
  obtain ⟨u, hi, _⟩ := h.inp
  unfold inE
  cases hl : E.I.getLast? with
  | none => simp
  | some x =>
    have := hi.ok x (List.mem_of_getLast? hl)
    dsimp only
    omega
abbrev catchFr (E : Es) : L14.Fm := ⟨5, E.C.length, E.I.length, inE E.I, 0, []⟩
abbrev callFr (E : Es) : L14.Fm := ⟨1, E.d, E.i, 0, 0, []⟩
set_option maxHeartbeats 2000000 in
set_option maxRecDepth 100000 in
theorem pushcatch_calls (h : Eg w A T E) : Calls Tryz.prog 235 #[Pt A.g] w (Plays A T w (.int .i64 (if 128 < E.F.length + 2 then -5 else 0)) (if 128 < E.F.length + 2 then E else { E with F := E.F ++ [callFr E, catchFr E] })) := by
  have c5 := h.cs.c5
  have hfew := h.few
  have H1 := Lib.hid (h.fdepth E.F.length rfl)
  have HH := Lib.hid h
  obtain ⟨m, hm⟩ : ∃ m, m = E.F.length := ⟨_, rfl⟩
  by_cases hl : 128 < E.F.length + 2
  · rw [if_pos hl, if_pos hl]
    rw [← hm] at H1 hl hfew
    have hlI : (128 : Int) < (m : Int) + 2 := by omega
    clear h hm
    go_enter Tryz.func235, Tryz.ntmps235
    go_wp2_with fail
    refine (H1.out).mono ?_
    rintro e w1 ⟨rfl, rfl⟩
    go_wp2_with fail
    go_ret
    exact Plays.of HH.out (Mod.refl [] w) _
  · rw [if_neg hl, if_neg hl]
    have hI := h.in_le
    have hCn := h.n
    have hId := h.dep
    have H2 := Lib.hid (fun W (m : Mod [] w W) => back_calls (h.far m))
    have H3 := Lib.hid (fun W (m : Mod [] w W) => (h.far m).fpush (q := callFr E) (L14.Lc.nil W).ls (by simp) ⟨h.ok.di.1, h.ok.di.2.1, i64_0, i64_0, by simp⟩)
    have H4 := Lib.hid (fun W T' (h' : Eg W A T' { E with F := E.F ++ [callFr E] }) => h'.fpush (q := catchFr E) (L14.Lc.nil W).ls (by simp) ⟨by unfold I64; dsimp only; omega, by unfold I64; dsimp only; omega, by unfold I64; dsimp only; omega, i64_0, by simp⟩)
    unfold frameE L14.pushE L14.pushL at H3 H4
    unfold L14.frV at H4
    dsimp only at H4
    simp only [List.length_append, List.length_singleton, List.append_assoc, List.cons_append, List.nil_append] at H3 H4
    rw [if_neg (by omega), if_neg (by omega)] at H3
    have e4 : ¬ 128 ≤ E.F.length + 1 := by omega
    simp only [e4, if_false] at H4
    rw [← hm] at H1 hl hfew
    have hlI : ¬ (128 : Int) < (m : Int) + 2 := by omega
    clear h hm e4 hI hCn hId
    go_enter Tryz.func235, Tryz.ntmps235
    go_wp2_with fail
    refine (H1.out).mono ?_
    rintro e w1 ⟨rfl, rfl⟩
    go_wp2_with fail
    have hD := (Mod.refl [] w).drew
    go_region_held3 (fun W => W.cell? ⟨A.g, 5, none⟩ = some (Pt A.f)) (first | with_reducible exact hD.cell (x := ⟨A.g, 5, none⟩) (by simp) c5 | with_reducible exact k2.cell (x := ⟨A.g, 5, none⟩) (by simp) (hD.cell (x := ⟨A.g, 5, none⟩) (by simp) c5) | with_reducible exact h3.cs.c5 | fail)
      (first | ((with_reducible refine (H2.out _ hD).mono ?_); rintro e w2 ⟨rfl, k2⟩) | ((with_reducible refine (H3.out _ (hD.trans k2)).mono ?_); rintro e w3 ⟨rfl, T3, h3, t3⟩) | fail)
    have HP := Lib.hid (And.intro h3 ((Tn.far (hD.trans k2)).trans t3))
    have c5 := h3.cs.c5
    have c4 := h3.cs.c4
    have HS := Lib.hid (fun W (m : Mod [] w3 W) => estack_calls (h3.far m))
    have HD := Lib.hid (fun W (m : Mod [] w3 W) => (h3.far m).sdepth)
    have HI := Lib.hid (fun W (m : Mod [] w3 W) => (h3.far m).idepth)
    have HN := Lib.hid (fun W (m : Mod [] w3 W) => (h3.far m).iin)
    have H5 := Lib.hid (fun W (m : Mod [] w3 W) => H4.out W T3 (h3.far m))
    clear h3 t3 k2 hD H1 H2 H3 H4
    go_wp2_with fail
    have hD := (Mod.refl [] w3).drew
    go_region_held3 (fun W => W.cell? ⟨A.g, 5, none⟩ = some (Pt A.f) ∧ W.cell? ⟨A.g, 4, none⟩ = some (Pt A.p)) (first | with_reducible exact ⟨hD.cell (x := ⟨A.g, 5, none⟩) (by simp) c5, hD.cell (x := ⟨A.g, 4, none⟩) (by simp) c4⟩ | with_reducible exact ⟨k9.cell (x := ⟨A.g, 5, none⟩) (by simp) (hD.cell (x := ⟨A.g, 5, none⟩) (by simp) c5), k9.cell (x := ⟨A.g, 4, none⟩) (by simp) (hD.cell (x := ⟨A.g, 4, none⟩) (by simp) c4)⟩ | with_reducible exact ⟨h5.cs.c5, h5.cs.c4⟩ | fail)
      (first | ((with_reducible refine (HS.out _ hD).mono ?_); rintro e w4 ⟨rfl, rfl⟩) | ((with_reducible refine (HD.out _ hD).mono ?_); rintro e w4 ⟨rfl, rfl⟩) | ((with_reducible refine (HI.out _ hD).mono ?_); rintro e w4 ⟨rfl, rfl⟩) | ((with_reducible refine (HN.out _ hD).mono ?_); rintro e w4 ⟨rfl, k9⟩) | ((with_reducible refine (H5.out _ (hD.trans k9)).mono ?_); rintro e w5 ⟨rfl, T5, h5, t5⟩) | fail)
    have HQ := Lib.hid (And.intro h5 ((HP.out.2.trans (Tn.far (hD.trans k9))).trans t5))
    clear h5 t5 k9 hD HS HD HI HN H5
    go_wp2_with fail
    go_ret
    exact ⟨rfl, _, HQ.out.1, HQ.out.2⟩
end
end Go.Proofs.YtifnkmddinoneaaGreatDoor
