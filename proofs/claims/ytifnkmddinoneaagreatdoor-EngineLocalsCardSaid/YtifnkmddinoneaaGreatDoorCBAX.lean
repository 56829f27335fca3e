/- Layer 15: the engine's words and instructions that are one call, and what is behind it. Condition: the block is an engine (Eg). Layer 15: what is done with cells that were taken: the closures. Condition: the block is an engine (Eg). Layer 15: the instructions that take cells. Condition: the block is an engine (Eg). -/
import Derived.Test.YtifnkmddinoneaaGreatDoorCBAW
set_option maxRecDepth 100000
namespace Go.Proofs.YtifnkmddinoneaaGreatDoor
open Go.RowKit
set_option linter.unusedVariables false
section
variable {w w' : World} {A : Ag} {E : Es} {T : List Nat}
theorem i64_of_small {n : Int} (h : -100 ≤ n ∧ n ≤ 100) : I64 n := by unfold I64; omega
theorem push_i64 (x : Int) (E : Es) : I64 (pushE x E).1 := i64_of_small (by unfold pushE putL; dsimp only; split <;> (dsimp only; omega))
theorem frame_i64 (q : L14.Fm) (E : Es) : I64 (frameE q E).1 := i64_of_small (by unfold frameE L14.pushE; dsimp only; split <;> omega)
theorem cell_i64 (E : Es) : I64 (cellE E).1 := by
  unfold cellE
  split
  · exact push_i64 _ _
  · exact i64_of_small (by dsimp only; omega)
theorem index_i64 (n : Int) (E : Es) : I64 (indexE n E).1 := by
  unfold indexE
  split
  · exact push_i64 _ _
  · exact i64_of_small (by dsimp only; omega)
theorem unloop_i64 (E : Es) : I64 (unloopE E).1 := i64_of_small (by unfold unloopE; split <;> (dsimp only; omega))
theorem stepF_i64 (s a : Int) (E : Es) : I64 (stepF s a E).1 := i64_of_small (by unfold stepF; split <;> (dsimp only; omega))
theorem taking_i64 (n : Nat) (f : List Int → Es → Int × Es) (E : Es) (h : ∀ l E, I64 (f l E).1) : I64 (takingE n f E).1 := by
  unfold takingE
  split
  · exact i64_of_small (by dsimp only; omega)
  · dsimp only
    split
    · exact h _ _
    · exact h _ _
def insV (x : L10.Xi) : Value := .agg #[.int .u8 (x.op : Int), .int .i64 x.a, .int .i64 x.w]
set_option maxHeartbeats 1000000 in
theorem copyr_calls (h : Eg w A T E) : Calls Tryz.prog 84 #[Pt A.g] w (Plays A T w (stV (after (cellE E)).1) (after (cellE E)).2) := by
  have h0 := h.far (L14.al_mod w zst)
  have hb := h
  have H1 := pushframed_calls h0
  have HE : I64 (cellE E).1 := cell_i64 E
  generalize cellE E = R at H1 HE ⊢
  obtain ⟨p1, p2⟩ := R
  dsimp only at H1 HE
  have HA := fun W T' (h' : Eg W A T' p2) => after_calls h' p1 HE
  generalize after (p1, p2) = S at HA ⊢
  obtain ⟨⟨s0, s1, s2⟩, E'⟩ := S
  have HA := Lib.hid HA
  have H1 := Lib.hid H1
  have HH := Lib.hid hb
  clear h h0 hb HE
  go_enter Tryz.func84, Tryz.ntmps84
  go_wp2_with fail
  refine (H1.out).mono ?_
  rintro e w2 ⟨rfl, T2, h2, t2⟩
  have HA2 := Lib.hid (HA.out w2 T2 h2)
  have HT := Lib.hid t2
  clear h2 t2 H1 HA
  go_wp2_with fail
  refine (HA2.out).mono ?_
  rintro e w3 ⟨rfl, T3, h3, t3⟩
  obtain ⟨b1, b2⟩ := box_beside HH.out (HT.out.trans t3) h3
  obtain ⟨c0, c1, c2, g0, g1, g2⟩ := three_at b1
  have HB := Lib.hid (And.intro b1 b2)
  clear b1 b2
  unfold stV
  dsimp only
  go_wp2_with fail
  obtain ⟨b1, b2⟩ := HB.out
  obtain ⟨k1, k2⟩ := three_set b1 (.int .i64 s0) (.int .i64 s1) (.int .i64 s2)
  obtain ⟨h5, t5⟩ := b2 _ k2
  exact bodyPost_ret (res_st Tryz.results84 rfl k1) rfl ⟨rfl, _, h5, t5⟩
set_option maxHeartbeats 1000000 in
theorem inner_calls (h : Eg w A T E) : Calls Tryz.prog 85 #[Pt A.g] w (Plays A T w (stV (after (indexE 0 E)).1) (after (indexE 0 E)).2) := by
  have h0 := h.far (L14.al_mod w zst)
  have hb := h
  have H1 := pushindex_calls h0 0
  have HE : I64 (indexE 0 E).1 := index_i64 0 E
  generalize indexE 0 E = R at H1 HE ⊢
  obtain ⟨p1, p2⟩ := R
  dsimp only at H1 HE
  have HA := fun W T' (h' : Eg W A T' p2) => after_calls h' p1 HE
  generalize after (p1, p2) = S at HA ⊢
  obtain ⟨⟨s0, s1, s2⟩, E'⟩ := S
  have HA := Lib.hid HA
  have H1 := Lib.hid H1
  have HH := Lib.hid hb
  clear h h0 hb HE
  go_enter Tryz.func85, Tryz.ntmps85
  go_wp2_with fail
  refine (H1.out).mono ?_
  rintro e w2 ⟨rfl, T2, h2, t2⟩
  have HA2 := Lib.hid (HA.out w2 T2 h2)
  have HT := Lib.hid t2
  clear h2 t2 H1 HA
  go_wp2_with fail
  refine (HA2.out).mono ?_
  rintro e w3 ⟨rfl, T3, h3, t3⟩
  obtain ⟨b1, b2⟩ := box_beside HH.out (HT.out.trans t3) h3
  obtain ⟨c0, c1, c2, g0, g1, g2⟩ := three_at b1
  have HB := Lib.hid (And.intro b1 b2)
  clear b1 b2
  unfold stV
  dsimp only
  go_wp2_with fail
  obtain ⟨b1, b2⟩ := HB.out
  obtain ⟨k1, k2⟩ := three_set b1 (.int .i64 s0) (.int .i64 s1) (.int .i64 s2)
  obtain ⟨h5, t5⟩ := b2 _ k2
  exact bodyPost_ret (res_st Tryz.results85 rfl k1) rfl ⟨rfl, _, h5, t5⟩
set_option maxHeartbeats 1000000 in
theorem outer_calls (h : Eg w A T E) : Calls Tryz.prog 86 #[Pt A.g] w (Plays A T w (stV (after (indexE 1 E)).1) (after (indexE 1 E)).2) := by
  have h0 := h.far (L14.al_mod w zst)
  have hb := h
  have H1 := pushindex_calls h0 1
  have HE : I64 (indexE 1 E).1 := index_i64 1 E
  generalize indexE 1 E = R at H1 HE ⊢
  obtain ⟨p1, p2⟩ := R
  dsimp only at H1 HE
  have HA := fun W T' (h' : Eg W A T' p2) => after_calls h' p1 HE
  generalize after (p1, p2) = S at HA ⊢
  obtain ⟨⟨s0, s1, s2⟩, E'⟩ := S
  have HA := Lib.hid HA
  have H1 := Lib.hid H1
  have HH := Lib.hid hb
  clear h h0 hb HE
  go_enter Tryz.func86, Tryz.ntmps86
  go_wp2_with fail
  refine (H1.out).mono ?_
  rintro e w2 ⟨rfl, T2, h2, t2⟩
  have HA2 := Lib.hid (HA.out w2 T2 h2)
  have HT := Lib.hid t2
  clear h2 t2 H1 HA
  go_wp2_with fail
  refine (HA2.out).mono ?_
  rintro e w3 ⟨rfl, T3, h3, t3⟩
  obtain ⟨b1, b2⟩ := box_beside HH.out (HT.out.trans t3) h3
  obtain ⟨c0, c1, c2, g0, g1, g2⟩ := three_at b1
  have HB := Lib.hid (And.intro b1 b2)
  clear b1 b2
  unfold stV
  dsimp only
  go_wp2_with fail
  obtain ⟨b1, b2⟩ := HB.out
  obtain ⟨k1, k2⟩ := three_set b1 (.int .i64 s0) (.int .i64 s1) (.int .i64 s2)
  obtain ⟨h5, t5⟩ := b2 _ k2
  exact bodyPost_ret (res_st Tryz.results86 rfl k1) rfl ⟨rfl, _, h5, t5⟩
set_option maxHeartbeats 1000000 in
theorem unloop_calls (h : Eg w A T E) : Calls Tryz.prog 87 #[Pt A.g] w (Plays A T w (stV (after (unloopE E)).1) (after (unloopE E)).2) := by
  have h0 := h.far (L14.al_mod w zst)
  have hb := h
  have H1 := endloop_calls h0
  have HE : I64 (unloopE E).1 := unloop_i64 E
  generalize unloopE E = R at H1 HE ⊢
  obtain ⟨p1, p2⟩ := R
  dsimp only at H1 HE
  have HA := fun W T' (h' : Eg W A T' p2) => after_calls h' p1 HE
  generalize after (p1, p2) = S at HA ⊢
  obtain ⟨⟨s0, s1, s2⟩, E'⟩ := S
  have HA := Lib.hid HA
  have H1 := Lib.hid H1
  have HH := Lib.hid hb
  clear h h0 hb HE
  go_enter Tryz.func87, Tryz.ntmps87
  go_wp2_with fail
  refine (H1.out).mono ?_
  rintro e w2 ⟨rfl, T2, h2, t2⟩
  have HA2 := Lib.hid (HA.out w2 T2 h2)
  have HT := Lib.hid t2
  clear h2 t2 H1 HA
  go_wp2_with fail
  refine (HA2.out).mono ?_
  rintro e w3 ⟨rfl, T3, h3, t3⟩
  obtain ⟨b1, b2⟩ := box_beside HH.out (HT.out.trans t3) h3
  obtain ⟨c0, c1, c2, g0, g1, g2⟩ := three_at b1
  have HB := Lib.hid (And.intro b1 b2)
  clear b1 b2
  unfold stV
  dsimp only
  go_wp2_with fail
  obtain ⟨b1, b2⟩ := HB.out
  obtain ⟨k1, k2⟩ := three_set b1 (.int .i64 s0) (.int .i64 s1) (.int .i64 s2)
  obtain ⟨h5, t5⟩ := b2 _ k2
  exact bodyPost_ret (res_st Tryz.results87 rfl k1) rfl ⟨rfl, _, h5, t5⟩
set_option maxHeartbeats 1000000 in
theorem tor_calls (h : Eg w A T E) : Calls Tryz.prog 82 #[Pt A.g] w (Plays A T w (stV (after (takingE 1 (fun l E => frameE ⟨2, 0, 0, l.headD 0, 0, []⟩ E) E)).1) (after (takingE 1 (fun l E => frameE ⟨2, 0, 0, l.headD 0, 0, []⟩ E) E)).2) := by
  have h0 := h.far (L14.al_mod w zst)
  have hb := h
  have H1 := pushframe_calls h0 1 (by decide) 230 (fun xs W => by kernel_rfl) (fun l => ⟨2, 0, 0, l.headD 0, 0, []⟩) frame_tor (by simp) (fun X hX hI => by obtain ⟨x, rfl⟩ := list1 hX; exact ⟨i64_0, i64_0, hI x (by simp), i64_0, by simp⟩)
  have HE : I64 (takingE 1 (fun l E => frameE ⟨2, 0, 0, l.headD 0, 0, []⟩ E) E).1 := taking_i64 _ _ _ fun _ _ => frame_i64 _ _
  generalize takingE 1 (fun l E => frameE ⟨2, 0, 0, l.headD 0, 0, []⟩ E) E = R at H1 HE ⊢
  obtain ⟨p1, p2⟩ := R
  dsimp only at H1 HE
  have HA := fun W T' (h' : Eg W A T' p2) => after_calls h' p1 HE
  generalize after (p1, p2) = S at HA ⊢
  obtain ⟨⟨s0, s1, s2⟩, E'⟩ := S
  have HA := Lib.hid HA
  have H1 := Lib.hid H1
  have HH := Lib.hid hb
  clear h h0 hb HE
  go_enter Tryz.func82, Tryz.ntmps82
  go_wp2_with fail
  refine (H1.out).mono ?_
  rintro e w2 ⟨rfl, T2, h2, t2⟩
  have HA2 := Lib.hid (HA.out w2 T2 h2)
  have HT := Lib.hid t2
  clear h2 t2 H1 HA
  go_wp2_with fail
  refine (HA2.out).mono ?_
  rintro e w3 ⟨rfl, T3, h3, t3⟩
  obtain ⟨b1, b2⟩ := box_beside HH.out (HT.out.trans t3) h3
  obtain ⟨c0, c1, c2, g0, g1, g2⟩ := three_at b1
  have HB := Lib.hid (And.intro b1 b2)
  clear b1 b2
  unfold stV
  dsimp only
  go_wp2_with fail
  obtain ⟨b1, b2⟩ := HB.out
  obtain ⟨k1, k2⟩ := three_set b1 (.int .i64 s0) (.int .i64 s1) (.int .i64 s2)
  obtain ⟨h5, t5⟩ := b2 _ k2
  exact bodyPost_ret (res_st Tryz.results82 rfl k1) rfl ⟨rfl, _, h5, t5⟩
set_option maxHeartbeats 1000000 in
theorem literal_calls (h : Eg w A T E) (x : L10.Xi) (hx : I64 x.w) : Calls Tryz.prog 91 #[Pt A.g, insV x] w (Plays A T w (stV (after (pushE x.w E)).1) (after (pushE x.w E)).2) := by
  obtain ⟨xo, xa, xw⟩ := x
  unfold insV
  dsimp only at hx ⊢
  have hb := h.far (L14.al_mod w (.cells #[.int .u8 (xo : Int), .int .i64 xa, .int .i64 xw] 61))
  have hz := L14.size_allocI w (.cells #[.int .u8 (xo : Int), .int .i64 xa, .int .i64 xw] 61)
  have h0 := hb.far (L14.al_mod (w.alloc (.cells #[.int .u8 (xo : Int), .int .i64 xa, .int .i64 xw] 61)) zst)
  have H1 := epush_calls h0 xw hx
  have HE : I64 (pushE xw E).1 := push_i64 _ _
  generalize pushE xw E = R at H1 HE ⊢
  obtain ⟨p1, p2⟩ := R
  dsimp only at H1 HE
  have HA := fun W T' (h' : Eg W A T' p2) => after_calls h' p1 HE
  generalize after (p1, p2) = S at HA ⊢
  obtain ⟨⟨s0, s1, s2⟩, E'⟩ := S
  have HA := Lib.hid HA
  have H1 := Lib.hid H1
  have HH := Lib.hid hb
  clear h h0 hb HE hx
  go_enter Tryz.func91, Tryz.ntmps91
  go_wp2_with fail
  refine (H1.out).mono ?_
  rintro e w2 ⟨rfl, T2, h2, t2⟩
  have HA2 := Lib.hid (HA.out w2 T2 h2)
  have HT := Lib.hid t2
  clear h2 t2 H1 HA
  go_wp2_with fail
  refine (HA2.out).mono ?_
  rintro e w3 ⟨rfl, T3, h3, t3⟩
  obtain ⟨b1, b2⟩ := box_beside HH.out (HT.out.trans t3) h3
  rw [hz] at b1 b2
  obtain ⟨c0, c1, c2, g0, g1, g2⟩ := three_at b1
  have HB := Lib.hid (And.intro b1 b2)
  clear b1 b2
  unfold stV
  dsimp only
  go_wp2_with fail
  obtain ⟨b1, b2⟩ := HB.out
  obtain ⟨k1, k2⟩ := three_set b1 (.int .i64 s0) (.int .i64 s1) (.int .i64 s2)
  obtain ⟨h5, t5⟩ := b2 _ k2
  exact bodyPost_ret (res_st Tryz.results91 rfl k1) rfl ⟨rfl, _, h5, (Tn.far (L14.al_mod w (.cells #[.int .u8 (xo : Int), .int .i64 xa, .int .i64 xw] 61))).trans t5⟩
set_option maxHeartbeats 1000000 in
theorem beginloop_calls (h : Eg w A T E) (x : L10.Xi) : Calls Tryz.prog 95 #[Pt A.g, insV x] w (Plays A T w (stV (after (takingE 2 (fun l E => frameE ⟨3, 0, 0, l.getD 1 0, l.headD 0, []⟩ E) E)).1) (after (takingE 2 (fun l E => frameE ⟨3, 0, 0, l.getD 1 0, l.headD 0, []⟩ E) E)).2) := by
  obtain ⟨xo, xa, xw⟩ := x
  unfold insV
  dsimp only at ⊢
  have hb := h.far (L14.al_mod w (.cells #[.int .u8 (xo : Int), .int .i64 xa, .int .i64 xw] 61))
  have hz := L14.size_allocI w (.cells #[.int .u8 (xo : Int), .int .i64 xa, .int .i64 xw] 61)
  have h0 := hb.far (L14.al_mod (w.alloc (.cells #[.int .u8 (xo : Int), .int .i64 xa, .int .i64 xw] 61)) zst)
  have H1 := pushframe_calls h0 2 (by decide) 240 (fun xs W => by kernel_rfl) (fun l => ⟨3, 0, 0, l.getD 1 0, l.headD 0, []⟩) frame_loop (by simp) (fun X hX hI => by obtain ⟨x, y, rfl⟩ := list2 hX; exact ⟨i64_0, i64_0, hI y (by simp), hI x (by simp), by simp⟩)
  have HE : I64 (takingE 2 (fun l E => frameE ⟨3, 0, 0, l.getD 1 0, l.headD 0, []⟩ E) E).1 := taking_i64 _ _ _ fun _ _ => frame_i64 _ _
  generalize takingE 2 (fun l E => frameE ⟨3, 0, 0, l.getD 1 0, l.headD 0, []⟩ E) E = R at H1 HE ⊢
  obtain ⟨p1, p2⟩ := R
  dsimp only at H1 HE
  have HA := fun W T' (h' : Eg W A T' p2) => after_calls h' p1 HE
  generalize after (p1, p2) = S at HA ⊢
  obtain ⟨⟨s0, s1, s2⟩, E'⟩ := S
  have HA := Lib.hid HA
  have H1 := Lib.hid H1
  have HH := Lib.hid hb
  clear h h0 hb HE
  go_enter Tryz.func95, Tryz.ntmps95
  go_wp2_with fail
  refine (H1.out).mono ?_
  rintro e w2 ⟨rfl, T2, h2, t2⟩
  have HA2 := Lib.hid (HA.out w2 T2 h2)
  have HT := Lib.hid t2
  clear h2 t2 H1 HA
  go_wp2_with fail
  refine (HA2.out).mono ?_
  rintro e w3 ⟨rfl, T3, h3, t3⟩
  obtain ⟨b1, b2⟩ := box_beside HH.out (HT.out.trans t3) h3
  rw [hz] at b1 b2
  obtain ⟨c0, c1, c2, g0, g1, g2⟩ := three_at b1
  have HB := Lib.hid (And.intro b1 b2)
  clear b1 b2
  unfold stV
  dsimp only
  go_wp2_with fail
  obtain ⟨b1, b2⟩ := HB.out
  obtain ⟨k1, k2⟩ := three_set b1 (.int .i64 s0) (.int .i64 s1) (.int .i64 s2)
  obtain ⟨h5, t5⟩ := b2 _ k2
  exact bodyPost_ret (res_st Tryz.results95 rfl k1) rfl ⟨rfl, _, h5, (Tn.far (L14.al_mod w (.cells #[.int .u8 (xo : Int), .int .i64 xa, .int .i64 xw] 61))).trans t5⟩
set_option maxHeartbeats 1000000 in
theorem advance1_calls (h : Eg w A T E) (x : L10.Xi) (hx : I64 x.a) : Calls Tryz.prog 97 #[Pt A.g, insV x] w (Plays A T w (stV (after (stepF 1 x.a E)).1) (after (stepF 1 x.a E)).2) := by
  obtain ⟨xo, xa, xw⟩ := x
  unfold insV
  dsimp only at hx ⊢
  have hb := h.far (L14.al_mod w (.cells #[.int .u8 (xo : Int), .int .i64 xa, .int .i64 xw] 61))
  have hz := L14.size_allocI w (.cells #[.int .u8 (xo : Int), .int .i64 xa, .int .i64 xw] 61)
  have h0 := hb.far (L14.al_mod (w.alloc (.cells #[.int .u8 (xo : Int), .int .i64 xa, .int .i64 xw] 61)) zst)
  have H1 := advance_calls h0 1 xa hx
  have HE : I64 (stepF 1 xa E).1 := stepF_i64 _ _ _
  generalize stepF 1 xa E = R at H1 HE ⊢
  obtain ⟨p1, p2⟩ := R
  dsimp only at H1 HE
  have HA := fun W T' (h' : Eg W A T' p2) => after_calls h' p1 HE
  generalize after (p1, p2) = S at HA ⊢
  obtain ⟨⟨s0, s1, s2⟩, E'⟩ := S
  have HA := Lib.hid HA
  have H1 := Lib.hid H1
  have HH := Lib.hid hb
  clear h h0 hb HE hx
  go_enter Tryz.func97, Tryz.ntmps97
  go_wp2_with fail
  refine (H1.out).mono ?_
  rintro e w2 ⟨rfl, T2, h2, t2⟩
  have HA2 := Lib.hid (HA.out w2 T2 h2)
  have HT := Lib.hid t2
  clear h2 t2 H1 HA
  go_wp2_with fail
  refine (HA2.out).mono ?_
  rintro e w3 ⟨rfl, T3, h3, t3⟩
  obtain ⟨b1, b2⟩ := box_beside HH.out (HT.out.trans t3) h3
  rw [hz] at b1 b2
  obtain ⟨c0, c1, c2, g0, g1, g2⟩ := three_at b1
  have HB := Lib.hid (And.intro b1 b2)
  clear b1 b2
  unfold stV
  dsimp only
  go_wp2_with fail
  obtain ⟨b1, b2⟩ := HB.out
  obtain ⟨k1, k2⟩ := three_set b1 (.int .i64 s0) (.int .i64 s1) (.int .i64 s2)
  obtain ⟨h5, t5⟩ := b2 _ k2
  exact bodyPost_ret (res_st Tryz.results97 rfl k1) rfl ⟨rfl, _, h5, (Tn.far (L14.al_mod w (.cells #[.int .u8 (xo : Int), .int .i64 xa, .int .i64 xw] 61))).trans t5⟩
set_option maxHeartbeats 1000000 in
theorem locals_calls (h : Eg w A T E) (x : L10.Xi) (n : Nat) (hx : x.a = (n : Int)) (hn : n ≤ 1000) : Calls Tryz.prog 102 #[Pt A.g, insV x] w (Plays A T w (stV (after (takingE n (fun l E => frameE ⟨4, 0, 0, 0, 0, l⟩ E) E)).1) (after (takingE n (fun l E => frameE ⟨4, 0, 0, 0, 0, l⟩ E) E)).2) := by
  obtain ⟨xo, xa, xw⟩ := x
  unfold insV
  dsimp only at hx ⊢
  subst hx
  have hb := h.far (L14.al_mod w (.cells #[.int .u8 (xo : Int), .int .i64 (n : Int), .int .i64 xw] 61))
  have hz := L14.size_allocI w (.cells #[.int .u8 (xo : Int), .int .i64 (n : Int), .int .i64 xw] 61)
  have h0 := hb.far (L14.al_mod (w.alloc (.cells #[.int .u8 (xo : Int), .int .i64 (n : Int), .int .i64 xw] 61)) zst)
  have H1 := pushframe_calls h0 n hn 245 (fun xs W => by kernel_rfl) (fun l => ⟨4, 0, 0, 0, 0, l⟩) (frame_locals n hn) (fun X hX => by dsimp only; omega) (fun X hX hI => ⟨i64_0, i64_0, i64_0, i64_0, hI⟩)
  have HE : I64 (takingE n (fun l E => frameE ⟨4, 0, 0, 0, 0, l⟩ E) E).1 := taking_i64 _ _ _ fun _ _ => frame_i64 _ _
  generalize takingE n (fun l E => frameE ⟨4, 0, 0, 0, 0, l⟩ E) E = R at H1 HE ⊢
  obtain ⟨p1, p2⟩ := R
  dsimp only at H1 HE
  have HA := fun W T' (h' : Eg W A T' p2) => after_calls h' p1 HE
  generalize after (p1, p2) = S at HA ⊢
  obtain ⟨⟨s0, s1, s2⟩, E'⟩ := S
  have HA := Lib.hid HA
  have H1 := Lib.hid H1
  have HH := Lib.hid hb
  clear h h0 hb HE hn
  go_enter Tryz.func102, Tryz.ntmps102
  go_wp2_with fail
  refine (H1.out).mono ?_
  rintro e w2 ⟨rfl, T2, h2, t2⟩
  have HA2 := Lib.hid (HA.out w2 T2 h2)
  have HT := Lib.hid t2
  clear h2 t2 H1 HA
  go_wp2_with fail
  refine (HA2.out).mono ?_
  rintro e w3 ⟨rfl, T3, h3, t3⟩
  obtain ⟨b1, b2⟩ := box_beside HH.out (HT.out.trans t3) h3
  rw [hz] at b1 b2
  obtain ⟨c0, c1, c2, g0, g1, g2⟩ := three_at b1
  have HB := Lib.hid (And.intro b1 b2)
  clear b1 b2
  unfold stV
  dsimp only
  go_wp2_with fail
  obtain ⟨b1, b2⟩ := HB.out
  obtain ⟨k1, k2⟩ := three_set b1 (.int .i64 s0) (.int .i64 s1) (.int .i64 s2)
  obtain ⟨h5, t5⟩ := b2 _ k2
  exact bodyPost_ret (res_st Tryz.results102 rfl k1) rfl ⟨rfl, _, h5, (Tn.far (L14.al_mod w (.cells #[.int .u8 (xo : Int), .int .i64 (n : Int), .int .i64 xw] 61))).trans t5⟩
end
end Go.Proofs.YtifnkmddinoneaaGreatDoor
namespace Go.Proofs.YtifnkmddinoneaaGreatDoor
open Go.RowKit
set_option linter.unusedVariables false
section
variable {w w' : World} {A : Ag} {E : Es} {T : List Nat}
structure Cap (w : World) (A : Ag) (T : List Nat) (bx bg : Nat) (a : Int) : Prop where
  x : w.cell? ⟨bx, 1, none⟩ = some (.int .i64 a)
  g : w.cell? ⟨bg, 0, none⟩ = some (Pt A.g)
  nx : bx ∉ T
  ng : bg ∉ T
theorem Cap.turn {bx bg : Nat} {a : Int} {T' : List Nat} (h : Cap w A T bx bg a) (t : Tn T T' w w') : Cap w' A T' bx bg a :=
  ⟨t.m.cell h.nx h.x, t.m.cell h.ng h.g, (t.keeps h.nx (World.block_lt_of_cell? _ _ h.x)).2.1, (t.keeps h.ng (World.block_lt_of_cell? _ _ h.g)).2.1⟩
set_option maxHeartbeats 1000000 in
theorem clos_zero {bx bg : Nat} {a : Int} (hc : Cap w A T bx bg a) (ha : I64 a) (X : List Int) (hX : X.length = 1) (E1 : Es) :
    DoesTo A 239 #[Pt bx, Pt bg] w T E1 X 1 (0, if X.headD 0 = 0 then { E1 with i := a } else E1) := by
  obtain ⟨x, rfl⟩ := list1 hX
  intro W T1 b c h1 t1 hO hb hbT
  have hc := hc.turn t1
  have x1 := hc.x
  have g1 := hc.g
  have l0 : W.cell? ⟨b, 0, none⟩ = some (.int .i64 x) := hO.cell 0 (by simp)
  have c7 := h1.cs.c7
  have f7 := h1.cs.f7
  have HH := Lib.hid (And.intro h1 ha)
  show Calls Tryz.prog 239 #[.slice (some ⟨b, 0, none⟩) 1 c, Pt bx, Pt bg] W _
  clear hc hX t1 hO hb hbT h1 ha
  by_cases h0 : x = 0
  · have hb0 : (x == 0) = true := by simpa using h0
    rw [if_pos (show [x].headD 0 = 0 from h0)]
    clear h0
    go_enter Tryz.func239, Tryz.ntmps239
    go_wp2_with fail
    go_ret
    obtain ⟨h2, t2⟩ := HH.out.1.set7 a HH.out.2
    exact ⟨rfl, _, h2, t2⟩
  · have hb0 : (x == 0) = false := by simpa using h0
    rw [if_neg (show ¬ [x].headD 0 = 0 from h0)]
    clear h0
    go_enter Tryz.func239, Tryz.ntmps239
    go_wp2_with fail
    go_ret
    exact ⟨rfl, _, HH.out.1, Tn.refl _ _⟩
set_option maxHeartbeats 1000000 in
theorem clos_plus {bx bg : Nat} {a : Int} (hc : Cap w A T bx bg a) (ha : I64 a) (X : List Int) (hX : X.length = 1) (hI : ∀ x ∈ X, I64 x) (E1 : Es) :
    DoesTo A 243 #[Pt bg, Pt bx] w T E1 X 1 (stepF (X.headD 0) a E1) := by
  obtain ⟨x, rfl⟩ := list1 hX
  intro W T1 b c h1 t1 hO hb hbT
  have hc := hc.turn t1
  have x1 := hc.x
  have g1 := hc.g
  have l0 : W.cell? ⟨b, 0, none⟩ = some (.int .i64 x) := hO.cell 0 (by simp)
  have c5 := h1.cs.c5
  have c7 := h1.cs.c7
  have f7 := h1.cs.f7
  have HH := Lib.hid (And.intro h1 (And.intro ha (And.intro hI (And.intro hc (And.intro hO hbT)))))
  show Calls Tryz.prog 243 #[.slice (some ⟨b, 0, none⟩) 1 c, Pt bg, Pt bx] W _
  clear hc hX t1 hO hb hbT h1 ha hI
  have hD := (Mod.refl [] W).drew
  have H1 := advance_calls (HH.out.1.far hD) x a HH.out.2.1
  dsimp only [List.headD]
  generalize stepF x a E1 = R at H1 ⊢
  have H1 := Lib.hid H1
  go_enter Tryz.func243, Tryz.ntmps243
  go_wp2_with fail
  go_region_held3 (fun W => W.cell? ⟨bx, 1, none⟩ = some (.int .i64 a) ∧ W.cell? ⟨bg, 0, none⟩ = some (Pt A.g) ∧ W.cell? ⟨b, 0, none⟩ = some (.int .i64 x)) (first | with_reducible exact ⟨hD.cell (x := ⟨bx, 1, none⟩) (by simp) x1, hD.cell (x := ⟨bg, 0, none⟩) (by simp) g1, hD.cell (x := ⟨b, 0, none⟩) (by simp) l0⟩ | with_reducible exact ⟨t2.m.cell (x := ⟨bx, 1, none⟩) HH.out.2.2.2.1.nx (hD.cell (x := ⟨bx, 1, none⟩) (by simp) x1), t2.m.cell (x := ⟨bg, 0, none⟩) HH.out.2.2.2.1.ng (hD.cell (x := ⟨bg, 0, none⟩) (by simp) g1), t2.m.cell (x := ⟨b, 0, none⟩) HH.out.2.2.2.2.2 (hD.cell (x := ⟨b, 0, none⟩) (by simp) l0)⟩ | fail)
    (first | ((with_reducible refine (H1.out).mono ?_); rintro e w2 ⟨rfl, T2, h2, t2⟩) | fail)
  have HP := Lib.hid (And.intro h2 ((Tn.far hD).trans t2))
  clear h2 t2 hD H1 x1 g1 l0 c5 c7 f7
  go_wp2_with fail
  go_ret
  exact ⟨rfl, _, HP.out.1, HP.out.2⟩
theorem setL_none {i x : Int} {F : List L14.Fm} (h : (L14.localL i F).isSome = false) : L14.setL i x F = F := by
  unfold L14.setL
  cases hp : L14.placeL i F with
  | none => rfl
  | some p =>
    exfalso
    unfold L14.localL at h
    rw [hp] at h
    unfold L14.placeL at hp
    obtain ⟨q, _, hq⟩ := Option.bind_eq_some_iff.1 hp
    obtain ⟨z, hz, hz2⟩ := Option.bind_eq_some_iff.1 hq
    split at hz2
    · rename_i hk
      injection hz2 with hz2
      subst hz2
      simp only [Option.bind_some, hz] at h
      rw [List.getElem?_eq_getElem (by omega)] at h
      cases h
    · cases hz2
set_option maxHeartbeats 1000000 in
theorem clos_to {bx bg : Nat} {a : Int} (hc : Cap w A T bx bg a) (ha : I64 a) (X : List Int) (hX : X.length = 1) (hI : ∀ x ∈ X, I64 x) (E1 : Es) :
    DoesTo A 247 #[Pt bg, Pt bx] w T E1 X 1 (if (L14.localL a E1.F).isSome then (0, { E1 with F := L14.setL a (X.headD 0) E1.F }) else (-6, E1)) := by
  obtain ⟨x, rfl⟩ := list1 hX
  intro W T1 b c h1 t1 hO hb hbT
  have hc := hc.turn t1
  have x1 := hc.x
  have g1 := hc.g
  have l0 : W.cell? ⟨b, 0, none⟩ = some (.int .i64 x) := hO.cell 0 (by simp)
  have c5 := h1.cs.c5
  have c7 := h1.cs.c7
  have f7 := h1.cs.f7
  have HH := Lib.hid (And.intro h1 (And.intro ha (And.intro hI (And.intro hc (And.intro hO hbT)))))
  show Calls Tryz.prog 247 #[.slice (some ⟨b, 0, none⟩) 1 c, Pt bg, Pt bx] W _
  clear hc hX t1 hO hb hbT h1 ha hI
  have hD := (Mod.refl [] W).drew
  have H1 := (HH.out.1.far hD).fset a x (HH.out.2.2.1 x (by simp))
  have e0 : (if (L14.localL a E1.F).isSome then ((0 : Int), ({ E1 with F := L14.setL a ([x].headD 0) E1.F } : Es)) else (-6, E1)) = (L14.orE (-6) (L14.localL a E1.F), { E1 with F := L14.setL a x E1.F }) := by
    unfold L14.orE
    cases hl : (L14.localL a E1.F).isSome with
    | true => rfl
    | false => rw [if_neg (by decide), if_neg (by decide), setL_none (x := x) hl]
  rw [e0]
  dsimp only
  generalize L14.orE (-6) (L14.localL a E1.F) = r at H1 ⊢
  have H1 := Lib.hid H1
  clear e0
  go_enter Tryz.func247, Tryz.ntmps247
  go_wp2_with fail
  go_region_held3 (fun W => W.cell? ⟨bx, 1, none⟩ = some (.int .i64 a) ∧ W.cell? ⟨bg, 0, none⟩ = some (Pt A.g) ∧ W.cell? ⟨b, 0, none⟩ = some (.int .i64 x) ∧ W.cell? ⟨A.g, 5, none⟩ = some (Pt A.f)) (first | with_reducible exact ⟨hD.cell (x := ⟨bx, 1, none⟩) (by simp) x1, hD.cell (x := ⟨bg, 0, none⟩) (by simp) g1, hD.cell (x := ⟨b, 0, none⟩) (by simp) l0, hD.cell (x := ⟨A.g, 5, none⟩) (by simp) c5⟩ | with_reducible exact ⟨t2.m.cell (x := ⟨bx, 1, none⟩) HH.out.2.2.2.1.nx (hD.cell (x := ⟨bx, 1, none⟩) (by simp) x1), t2.m.cell (x := ⟨bg, 0, none⟩) HH.out.2.2.2.1.ng (hD.cell (x := ⟨bg, 0, none⟩) (by simp) g1), t2.m.cell (x := ⟨b, 0, none⟩) HH.out.2.2.2.2.2 (hD.cell (x := ⟨b, 0, none⟩) (by simp) l0), h2.cs.c5⟩ | fail)
    (first | ((with_reducible refine (H1.out).mono ?_); rintro e w2 ⟨rfl, T2, h2, t2⟩) | fail)
  have HP := Lib.hid (And.intro h2 ((Tn.far hD).trans t2))
  clear h2 t2 hD H1 x1 g1 l0 c5 c7 f7
  go_wp2_with fail
  go_ret
  exact ⟨rfl, _, HP.out.1, HP.out.2⟩
set_option maxHeartbeats 1000000 in
theorem clos_of {bx bg : Nat} {a : Int} (hc : Cap w A T bx bg a) (ha : I64 a) (X : List Int) (hX : X.length = 2) (hI : ∀ x ∈ X, I64 x) (E1 : Es) :
    DoesTo A 244 #[Pt bx, Pt bg] w T E1 X 2 (if X.headD 0 = X.getD 1 0 then (0, E1) else pushE (X.headD 0) { E1 with i := a }) := by
  obtain ⟨x, y, rfl⟩ := list2 hX
  intro W T1 b c h1 t1 hO hb hbT
  have hc := hc.turn t1
  have x1 := hc.x
  have g1 := hc.g
  have l0 : W.cell? ⟨b, 0, none⟩ = some (.int .i64 x) := hO.cell 0 (by simp)
  have l1 : W.cell? ⟨b, 1, none⟩ = some (.int .i64 y) := hO.cell 1 (by simp)
  have c5 := h1.cs.c5
  have c7 := h1.cs.c7
  have f7 := h1.cs.f7
  have HH := Lib.hid (And.intro h1 (And.intro ha (And.intro hI (And.intro hc (And.intro hO hbT)))))
  show Calls Tryz.prog 244 #[.slice (some ⟨b, 0, none⟩) 2 c, Pt bx, Pt bg] W _
  clear hc hX t1 hO hb hbT h1 ha hI
  by_cases h0 : x = y
  · have hb0 : (x == y) = true := by simpa using h0
    rw [if_pos (show [x, y].headD 0 = [x, y].getD 1 0 from h0)]
    have H0 := Lib.hid h0
    clear h0
    go_enter Tryz.func244, Tryz.ntmps244
    go_wp2_with fail
    go_region
    go_wp2_with fail
    go_ret
    exact ⟨rfl, _, HH.out.1.far (Mod.refl [] W).drew, Tn.far (Mod.refl [] W).drew⟩
  · have hb0 : (x == y) = false := by simpa using h0
    rw [if_neg (show ¬ [x, y].headD 0 = [x, y].getD 1 0 from h0)]
    rw [show pushE ([x, y].headD 0) { E1 with i := a } = pushE x { E1 with i := a } from rfl]
    obtain ⟨R, hR⟩ : ∃ R, R = pushE x { E1 with i := a } := ⟨_, rfl⟩
    rw [← hR]
    have HR := Lib.hid hR
    have H0 := Lib.hid h0
    clear h0 hR
    go_enter Tryz.func244, Tryz.ntmps244
    go_wp2_with fail
    go_region
    go_wp2_with fail
    obtain ⟨h2, t2⟩ := HH.out.1.set7 a HH.out.2.1
    have t3 := t2.trans (Tn.far (T := T1) (Mod.refl [] (W.setCell ⟨A.g, 7, none⟩ (.int .i64 a))).drew)
    have h3 := h2.far (Mod.refl [] (W.setCell ⟨A.g, 7, none⟩ (.int .i64 a))).drew
    have hc := HH.out.2.2.2.1.turn t3
    have l0 : (W.setCell ⟨A.g, 7, none⟩ (.int .i64 a)).drew.cell? ⟨b, 0, none⟩ = some (.int .i64 x) := t3.m.cell (x := ⟨b, 0, none⟩) HH.out.2.2.2.2.2 l0
    generalize (W.setCell ⟨A.g, 7, none⟩ (.int .i64 a)).drew = X at *
    have g1 := hc.g
    have hD := (Mod.refl [] X).drew
    have H1 := epush_calls (h3.far hD) x (HH.out.2.2.1 x (by simp))
    rw [← HR.out] at H1
    have H1 := Lib.hid H1
    go_region_held3 (fun W => W.cell? ⟨bg, 0, none⟩ = some (Pt A.g) ∧ W.cell? ⟨b, 0, none⟩ = some (.int .i64 x)) (first | with_reducible exact ⟨hD.cell (x := ⟨bg, 0, none⟩) (by simp) g1, hD.cell (x := ⟨b, 0, none⟩) (by simp) l0⟩ | with_reducible exact ⟨t4.m.cell (x := ⟨bg, 0, none⟩) HH.out.2.2.2.1.ng (hD.cell (x := ⟨bg, 0, none⟩) (by simp) g1), t4.m.cell (x := ⟨b, 0, none⟩) HH.out.2.2.2.2.2 (hD.cell (x := ⟨b, 0, none⟩) (by simp) l0)⟩ | fail)
      (first | ((with_reducible refine (H1.out).mono ?_); rintro e w4 ⟨rfl, T4, h4, t4⟩) | fail)
    have HP := Lib.hid (And.intro h4 ((t3.trans (Tn.far hD)).trans t4))
    clear h4 t4 hD H1 g1 l0 h2 t2 t3 h3 hc
    go_wp2_with fail
    go_ret
    exact ⟨rfl, _, HP.out.1, HP.out.2⟩
set_option maxHeartbeats 2000000 in
theorem clos_qdo {bx bg : Nat} {a : Int} (hc : Cap w A T bx bg a) (ha : I64 a) (X : List Int) (hX : X.length = 2) (hI : ∀ x ∈ X, I64 x) (E1 : Es) :
    DoesTo A 241 #[Pt bx, Pt bg] w T E1 X 2 (if X.headD 0 = X.getD 1 0 then (0, { E1 with i := a }) else frameE ⟨3, 0, 0, X.getD 1 0, X.headD 0, []⟩ E1) := by
  obtain ⟨x, y, rfl⟩ := list2 hX
  intro W T1 b c h1 t1 hO hb hbT
  have hc := hc.turn t1
  have x1 := hc.x
  have g1 := hc.g
  have l0 : W.cell? ⟨b, 0, none⟩ = some (.int .i64 x) := hO.cell 0 (by simp)
  have l1 : W.cell? ⟨b, 1, none⟩ = some (.int .i64 y) := hO.cell 1 (by simp)
  have c5 := h1.cs.c5
  have c7 := h1.cs.c7
  have f7 := h1.cs.f7
  have HH := Lib.hid (And.intro h1 (And.intro ha (And.intro hI (And.intro hc (And.intro hO hbT)))))
  show Calls Tryz.prog 241 #[.slice (some ⟨b, 0, none⟩) 2 c, Pt bx, Pt bg] W _
  clear hc hX t1 hO hb hbT h1 ha hI
  by_cases h0 : x = y
  · have hb0 : (x == y) = true := by simpa using h0
    rw [if_pos (show [x, y].headD 0 = [x, y].getD 1 0 from h0)]
    have H0 := Lib.hid h0
    clear h0
    go_enter Tryz.func241, Tryz.ntmps241
    go_wp2_with fail
    go_region
    go_wp2_with fail
    go_ret
    obtain ⟨h2, t2⟩ := HH.out.1.set7 a HH.out.2.1
    exact ⟨rfl, _, h2.far (Mod.refl [] (W.setCell ⟨A.g, 7, none⟩ (.int .i64 a))).drew, t2.trans (Tn.far (T := T1) (Mod.refl [] (W.setCell ⟨A.g, 7, none⟩ (.int .i64 a))).drew)⟩
  · have hb0 : (x == y) = false := by simpa using h0
    rw [if_neg (show ¬ [x, y].headD 0 = [x, y].getD 1 0 from h0)]
    rw [show frameE ⟨3, 0, 0, [x, y].getD 1 0, [x, y].headD 0, []⟩ E1 = frameE ⟨3, 0, 0, y, x, []⟩ E1 from rfl]
    obtain ⟨R, hR⟩ : ∃ R, R = frameE ⟨3, 0, 0, y, x, []⟩ E1 := ⟨_, rfl⟩
    rw [← hR]
    have HR := Lib.hid hR
    have H0 := Lib.hid h0
    clear h0 hR
    go_enter Tryz.func241, Tryz.ntmps241
    go_wp2_with fail
    go_region
    go_wp2_with fail
    have hD0 := (Mod.refl [] W).drew
    have hX := HH.out.1.far hD0
    have hc := HH.out.2.2.2.1.turn (Tn.far (T := T1) hD0)
    have hO := HH.out.2.2.2.2.1.mod hD0 (by simp)
    generalize W.drew = X at *
    have g1 := hc.g
    have c5 := hX.cs.c5
    have hD := (Mod.refl [] X).drew
    have H1 := Lib.hid (frame_loop [x, y] rfl X.drew b c (hO.mod hD (by simp)))
    have H2 := fun W2 s (m : Mod [] X W2) (hs : L14.Ls W2 s []) => (hX.far m).fpush (q := ⟨3, 0, 0, y, x, []⟩) hs (by simp) ⟨i64_0, i64_0, HH.out.2.2.1 y (by simp), HH.out.2.2.1 x (by simp), by simp⟩
    dsimp only [List.headD, List.getD, List.getElem?_cons_succ, List.getElem?_cons_zero, Option.getD] at H1
    rw [← HR.out] at H2
    have H2 := Lib.hid H2
    go_region_held3 (fun W => W.cell? ⟨bg, 0, none⟩ = some (Pt A.g) ∧ W.cell? ⟨A.g, 5, none⟩ = some (Pt A.f)) (first | with_reducible exact ⟨hD.cell (x := ⟨bg, 0, none⟩) (by simp) g1, hD.cell (x := ⟨A.g, 5, none⟩) (by simp) c5⟩ | with_reducible exact ⟨k2.cell (x := ⟨bg, 0, none⟩) (by simp) (hD.cell (x := ⟨bg, 0, none⟩) (by simp) g1), k2.cell (x := ⟨A.g, 5, none⟩) (by simp) (hD.cell (x := ⟨A.g, 5, none⟩) (by simp) c5)⟩ | with_reducible exact ⟨t3.m.cell (x := ⟨bg, 0, none⟩) HH.out.2.2.2.1.ng (k2.cell (x := ⟨bg, 0, none⟩) (by simp) (hD.cell (x := ⟨bg, 0, none⟩) (by simp) g1)), h3.cs.c5⟩ | fail)
      (first | ((with_reducible refine (H1.out).mono ?_); rintro e w2 ⟨s, rfl, hls, k2⟩) | ((with_reducible refine (H2.out _ s (hD.trans k2) hls).mono ?_); rintro e w3 ⟨rfl, T3, h3, t3⟩) | fail)
    have HP := Lib.hid (And.intro h3 ((Tn.far ((hD0.trans hD).trans k2)).trans t3))
    clear h3 t3 k2 hD hD0 H1 H2 g1 c5 hc hX hO hls
    go_wp2_with fail
    go_ret
    exact ⟨rfl, _, HP.out.1, HP.out.2⟩
end
end Go.Proofs.YtifnkmddinoneaaGreatDoor
namespace Go.Proofs.YtifnkmddinoneaaGreatDoor
open Go.RowKit
set_option linter.unusedVariables false
section
variable {w w' : World} {A : Ag} {E : Es} {T : List Nat}
set_option maxHeartbeats 2000000 in
set_option maxRecDepth 100000 in
theorem zero_calls (h : Eg w A T E) (x : L10.Xi) (hx : I64 x.a) : Calls Tryz.prog 94 #[Pt A.g, insV x] w (Plays A T w (stV (after (takingE 1 (fun l E => (0, if l.headD 0 = 0 then { E with i := x.a } else E)) E)).1) (after (takingE 1 (fun l E => (0, if l.headD 0 = 0 then { E with i := x.a } else E)) E)).2) := by
  obtain ⟨xo, xa, xw⟩ := x
  unfold insV
  dsimp only at hx ⊢
  have b1 := new_box h (Pt A.g) 27
  have h1 := h.far (L14.al_mod w (.cells #[Pt A.g] 27))
  have z1 := L14.size_allocI w (.cells #[Pt A.g] 27)
  have kx := (MapKept.heap_alloc (w.alloc (.cells #[Pt A.g] 27)) (.cells #[.int .u8 (xo : Int), .int .i64 xa, .int .i64 xw] 61)).1
  have nx : (w.alloc (.cells #[Pt A.g] 27)).heap.size ∉ T := fun hx => by have := h1.tl _ hx; omega
  have m2 := L14.al_mod (w.alloc (.cells #[Pt A.g] 27)) (.cells #[.int .u8 (xo : Int), .int .i64 xa, .int .i64 xw] 61)
  have hb := h1.far m2
  have m3 := L14.al_mod ((w.alloc (.cells #[Pt A.g] 27)).alloc (.cells #[.int .u8 (xo : Int), .int .i64 xa, .int .i64 xw] 61)) zst
  have hz : ((w.alloc (.cells #[Pt A.g] 27)).alloc (.cells #[.int .u8 (xo : Int), .int .i64 xa, .int .i64 xw] 61)).heap.size = w.heap.size + 2 := by rw [L14.size_allocI, z1]
  have h0 := hb.far m3
  rw [z1] at kx nx
  have cp : Cap (((w.alloc (.cells #[Pt A.g] 27)).alloc (.cells #[.int .u8 (xo : Int), .int .i64 xa, .int .i64 xw] 61)).alloc zst) A T (w.heap.size + 1) w.heap.size xa := ⟨m3.cell (x := ⟨w.heap.size + 1, 1, none⟩) (by simp) (L14.cell_eq kx 1), m3.cell (x := ⟨w.heap.size, 0, none⟩) (by simp) (m2.cell (x := ⟨w.heap.size, 0, none⟩) (by simp) b1.2), nx, b1.1⟩
  have tb := Tn.far (T := T) ((L14.al_mod w (.cells #[Pt A.g] 27)).trans m2)
  have h0d := h0.far (Mod.refl [] (((w.alloc (.cells #[Pt A.g] 27)).alloc (.cells #[.int .u8 (xo : Int), .int .i64 xa, .int .i64 xw] 61)).alloc zst)).drew
  have cpd := cp.turn (Tn.far (T := T) (Mod.refl [] (((w.alloc (.cells #[Pt A.g] 27)).alloc (.cells #[.int .u8 (xo : Int), .int .i64 xa, .int .i64 xw] 61)).alloc zst)).drew)
  have lb : w.heap.size < (((w.alloc (.cells #[Pt A.g] 27)).alloc (.cells #[.int .u8 (xo : Int), .int .i64 xa, .int .i64 xw] 61)).alloc zst).drew.heap.size := World.block_lt_of_cell? _ _ cpd.g
  have H1 : Calls Tryz.prog 238 #[Pt A.g, .int .i64 1, .func (.func 239) #[] #[Pt (w.heap.size + 1), Pt w.heap.size]] (((w.alloc (.cells #[Pt A.g] 27)).alloc (.cells #[.int .u8 (xo : Int), .int .i64 xa, .int .i64 xw] 61)).alloc zst).drew (Plays A T (((w.alloc (.cells #[Pt A.g] 27)).alloc (.cells #[.int .u8 (xo : Int), .int .i64 xa, .int .i64 xw] 61)).alloc zst).drew (.int .i64 (takingE 1 (fun l E => (0, if l.headD 0 = 0 then { E with i := xa } else E)) E).1) (takingE 1 (fun l E => (0, if l.headD 0 = 0 then { E with i := xa } else E)) E).2) := taking_calls h0d 1 (by decide) 239 #[Pt (w.heap.size + 1), Pt w.heap.size] (fun xs W => by kernel_rfl) (fun l E => (0, if l.headD 0 = 0 then { E with i := xa } else E)) fun hle => clos_zero cpd hx _ (by simp; omega) _
  have HE : I64 (takingE 1 (fun l E => (0, if l.headD 0 = 0 then { E with i := xa } else E)) E).1 := taking_i64 _ _ _ fun _ _ => i64_0
  generalize takingE 1 (fun l E => (0, if l.headD 0 = 0 then { E with i := xa } else E)) E = R at H1 HE ⊢
  obtain ⟨p1, p2⟩ := R
  dsimp only at H1 HE
  have HA := fun W T' (h' : Eg W A T' p2) => after_calls h' p1 HE
  generalize after (p1, p2) = S at HA ⊢
  obtain ⟨⟨s0, s1, s2⟩, E'⟩ := S
  unfold stV at HA ⊢
  dsimp only at HA ⊢
  have HA := Lib.hid HA
  have H1 := Lib.hid H1
  have HH := Lib.hid hb
  have bg := cp.g
  have ng := cp.ng
  clear h h0 hb HE hx b1 h1 z1 kx nx m2 m3 cp cpd h0d
  go_enter Tryz.func94, Tryz.ntmps94
  go_wp2_with fail
  generalize ((w.alloc (.cells #[Pt A.g] 27)).alloc (.cells #[.int .u8 (xo : Int), .int .i64 xa, .int .i64 xw] 61)) = Wb at *
  have hD := (Mod.refl [] (Wb.alloc zst)).drew
  have hne : w.heap.size ∉ [w.heap.size + 2] := by simp
  go_region_held3 (fun W => W.cell? ⟨w.heap.size, 0, none⟩ = some (Pt A.g)) (first | with_reducible exact hD.cell (x := ⟨w.heap.size, 0, none⟩) (by simp) bg | with_reducible exact e2 | with_reducible exact e3 | with_reducible exact (three_set b1 (.int .i64 s0) (.int .i64 s1) (.int .i64 s2)).2.cell (x := ⟨w.heap.size, 0, none⟩) hne e3 | fail)
    (first | ((with_reducible refine (H1.out).mono ?_); rintro e w2 ⟨rfl, T2, h2, t2⟩; have ng2 := (t2.keeps ng lb).2.1; have e2 := t2.m.cell (x := ⟨w.heap.size, 0, none⟩) ng (hD.cell (x := ⟨w.heap.size, 0, none⟩) (by simp) bg)) | ((with_reducible refine (HA.out w2 T2 h2).mono ?_); rintro e w3 ⟨rfl, T3, h3, t3⟩; have e3 := t3.m.cell (x := ⟨w.heap.size, 0, none⟩) ng2 e2; obtain ⟨b1, b2⟩ := box_beside HH.out (((Tn.far hD).trans t2).trans t3) h3; rw [hz] at b1 b2; obtain ⟨c0, c1, c2, g0, g1, g2⟩ := three_at b1) | fail)
  have HB := Lib.hid (And.intro b1 b2)
  clear b1 b2 h3 t3 h2 t2 HA H1 e2 e3 ng2 bg lb hD hne c0 c1 c2 g0 g1 g2
  go_wp2_with fail
  obtain ⟨b1, b2⟩ := HB.out
  obtain ⟨k1, k2⟩ := three_set b1 (.int .i64 s0) (.int .i64 s1) (.int .i64 s2)
  obtain ⟨h5, t5⟩ := b2 _ k2
  exact bodyPost_ret (res_st Tryz.results94 rfl k1) rfl ⟨rfl, _, h5, tb.trans t5⟩
set_option maxHeartbeats 2000000 in
set_option maxRecDepth 100000 in
theorem qdo_calls (h : Eg w A T E) (x : L10.Xi) (hx : I64 x.a) : Calls Tryz.prog 96 #[Pt A.g, insV x] w (Plays A T w (stV (after (takingE 2 (fun l E => if l.headD 0 = l.getD 1 0 then (0, { E with i := x.a }) else frameE ⟨3, 0, 0, l.getD 1 0, l.headD 0, []⟩ E) E)).1) (after (takingE 2 (fun l E => if l.headD 0 = l.getD 1 0 then (0, { E with i := x.a }) else frameE ⟨3, 0, 0, l.getD 1 0, l.headD 0, []⟩ E) E)).2) := by
  obtain ⟨xo, xa, xw⟩ := x
  unfold insV
  dsimp only at hx ⊢
  have b1 := new_box h (Pt A.g) 27
  have h1 := h.far (L14.al_mod w (.cells #[Pt A.g] 27))
  have z1 := L14.size_allocI w (.cells #[Pt A.g] 27)
  have kx := (MapKept.heap_alloc (w.alloc (.cells #[Pt A.g] 27)) (.cells #[.int .u8 (xo : Int), .int .i64 xa, .int .i64 xw] 61)).1
  have nx : (w.alloc (.cells #[Pt A.g] 27)).heap.size ∉ T := fun hx => by have := h1.tl _ hx; omega
  have m2 := L14.al_mod (w.alloc (.cells #[Pt A.g] 27)) (.cells #[.int .u8 (xo : Int), .int .i64 xa, .int .i64 xw] 61)
  have hb := h1.far m2
  have m3 := L14.al_mod ((w.alloc (.cells #[Pt A.g] 27)).alloc (.cells #[.int .u8 (xo : Int), .int .i64 xa, .int .i64 xw] 61)) zst
  have hz : ((w.alloc (.cells #[Pt A.g] 27)).alloc (.cells #[.int .u8 (xo : Int), .int .i64 xa, .int .i64 xw] 61)).heap.size = w.heap.size + 2 := by rw [L14.size_allocI, z1]
  have h0 := hb.far m3
  rw [z1] at kx nx
  have cp : Cap (((w.alloc (.cells #[Pt A.g] 27)).alloc (.cells #[.int .u8 (xo : Int), .int .i64 xa, .int .i64 xw] 61)).alloc zst) A T (w.heap.size + 1) w.heap.size xa := ⟨m3.cell (x := ⟨w.heap.size + 1, 1, none⟩) (by simp) (L14.cell_eq kx 1), m3.cell (x := ⟨w.heap.size, 0, none⟩) (by simp) (m2.cell (x := ⟨w.heap.size, 0, none⟩) (by simp) b1.2), nx, b1.1⟩
  have tb := Tn.far (T := T) ((L14.al_mod w (.cells #[Pt A.g] 27)).trans m2)
  have h0d := h0.far (Mod.refl [] (((w.alloc (.cells #[Pt A.g] 27)).alloc (.cells #[.int .u8 (xo : Int), .int .i64 xa, .int .i64 xw] 61)).alloc zst)).drew
  have cpd := cp.turn (Tn.far (T := T) (Mod.refl [] (((w.alloc (.cells #[Pt A.g] 27)).alloc (.cells #[.int .u8 (xo : Int), .int .i64 xa, .int .i64 xw] 61)).alloc zst)).drew)
  have lb : w.heap.size < (((w.alloc (.cells #[Pt A.g] 27)).alloc (.cells #[.int .u8 (xo : Int), .int .i64 xa, .int .i64 xw] 61)).alloc zst).drew.heap.size := World.block_lt_of_cell? _ _ cpd.g
  have H1 : Calls Tryz.prog 238 #[Pt A.g, .int .i64 2, .func (.func 241) #[] #[Pt (w.heap.size + 1), Pt w.heap.size]] (((w.alloc (.cells #[Pt A.g] 27)).alloc (.cells #[.int .u8 (xo : Int), .int .i64 xa, .int .i64 xw] 61)).alloc zst).drew (Plays A T (((w.alloc (.cells #[Pt A.g] 27)).alloc (.cells #[.int .u8 (xo : Int), .int .i64 xa, .int .i64 xw] 61)).alloc zst).drew (.int .i64 (takingE 2 (fun l E => if l.headD 0 = l.getD 1 0 then (0, { E with i := xa }) else frameE ⟨3, 0, 0, l.getD 1 0, l.headD 0, []⟩ E) E).1) (takingE 2 (fun l E => if l.headD 0 = l.getD 1 0 then (0, { E with i := xa }) else frameE ⟨3, 0, 0, l.getD 1 0, l.headD 0, []⟩ E) E).2) := taking_calls h0d 2 (by decide) 241 #[Pt (w.heap.size + 1), Pt w.heap.size] (fun xs W => by kernel_rfl) (fun l E => if l.headD 0 = l.getD 1 0 then (0, { E with i := xa }) else frameE ⟨3, 0, 0, l.getD 1 0, l.headD 0, []⟩ E) fun hle => clos_qdo cpd hx _ (by simp; omega) (fun x hx => h.i64 x (List.mem_of_mem_drop hx)) _
  have HE : I64 (takingE 2 (fun l E => if l.headD 0 = l.getD 1 0 then (0, { E with i := xa }) else frameE ⟨3, 0, 0, l.getD 1 0, l.headD 0, []⟩ E) E).1 := taking_i64 _ _ _ fun _ _ => by split; exact i64_0; exact frame_i64 _ _
  generalize takingE 2 (fun l E => if l.headD 0 = l.getD 1 0 then (0, { E with i := xa }) else frameE ⟨3, 0, 0, l.getD 1 0, l.headD 0, []⟩ E) E = R at H1 HE ⊢
  obtain ⟨p1, p2⟩ := R
  dsimp only at H1 HE
  have HA := fun W T' (h' : Eg W A T' p2) => after_calls h' p1 HE
  generalize after (p1, p2) = S at HA ⊢
  obtain ⟨⟨s0, s1, s2⟩, E'⟩ := S
  unfold stV at HA ⊢
  dsimp only at HA ⊢
  have HA := Lib.hid HA
  have H1 := Lib.hid H1
  have HH := Lib.hid hb
  have bg := cp.g
  have ng := cp.ng
  clear h h0 hb HE hx b1 h1 z1 kx nx m2 m3 cp cpd h0d
  go_enter Tryz.func96, Tryz.ntmps96
  go_wp2_with fail
  generalize ((w.alloc (.cells #[Pt A.g] 27)).alloc (.cells #[.int .u8 (xo : Int), .int .i64 xa, .int .i64 xw] 61)) = Wb at *
  have hD := (Mod.refl [] (Wb.alloc zst)).drew
  have hne : w.heap.size ∉ [w.heap.size + 2] := by simp
  go_region_held3 (fun W => W.cell? ⟨w.heap.size, 0, none⟩ = some (Pt A.g)) (first | with_reducible exact hD.cell (x := ⟨w.heap.size, 0, none⟩) (by simp) bg | with_reducible exact e2 | with_reducible exact e3 | with_reducible exact (three_set b1 (.int .i64 s0) (.int .i64 s1) (.int .i64 s2)).2.cell (x := ⟨w.heap.size, 0, none⟩) hne e3 | fail)
    (first | ((with_reducible refine (H1.out).mono ?_); rintro e w2 ⟨rfl, T2, h2, t2⟩; have ng2 := (t2.keeps ng lb).2.1; have e2 := t2.m.cell (x := ⟨w.heap.size, 0, none⟩) ng (hD.cell (x := ⟨w.heap.size, 0, none⟩) (by simp) bg)) | ((with_reducible refine (HA.out w2 T2 h2).mono ?_); rintro e w3 ⟨rfl, T3, h3, t3⟩; have e3 := t3.m.cell (x := ⟨w.heap.size, 0, none⟩) ng2 e2; obtain ⟨b1, b2⟩ := box_beside HH.out (((Tn.far hD).trans t2).trans t3) h3; rw [hz] at b1 b2; obtain ⟨c0, c1, c2, g0, g1, g2⟩ := three_at b1) | fail)
  have HB := Lib.hid (And.intro b1 b2)
  clear b1 b2 h3 t3 h2 t2 HA H1 e2 e3 ng2 bg lb hD hne c0 c1 c2 g0 g1 g2
  go_wp2_with fail
  obtain ⟨b1, b2⟩ := HB.out
  obtain ⟨k1, k2⟩ := three_set b1 (.int .i64 s0) (.int .i64 s1) (.int .i64 s2)
  obtain ⟨h5, t5⟩ := b2 _ k2
  exact bodyPost_ret (res_st Tryz.results96 rfl k1) rfl ⟨rfl, _, h5, tb.trans t5⟩
set_option maxHeartbeats 2000000 in
set_option maxRecDepth 100000 in
theorem plus_calls (h : Eg w A T E) (x : L10.Xi) (hx : I64 x.a) : Calls Tryz.prog 98 #[Pt A.g, insV x] w (Plays A T w (stV (after (takingE 1 (fun l E => stepF (l.headD 0) x.a E) E)).1) (after (takingE 1 (fun l E => stepF (l.headD 0) x.a E) E)).2) := by
  obtain ⟨xo, xa, xw⟩ := x
  unfold insV
  dsimp only at hx ⊢
  have b1 := new_box h (Pt A.g) 27
  have h1 := h.far (L14.al_mod w (.cells #[Pt A.g] 27))
  have z1 := L14.size_allocI w (.cells #[Pt A.g] 27)
  have kx := (MapKept.heap_alloc (w.alloc (.cells #[Pt A.g] 27)) (.cells #[.int .u8 (xo : Int), .int .i64 xa, .int .i64 xw] 61)).1
  have nx : (w.alloc (.cells #[Pt A.g] 27)).heap.size ∉ T := fun hx => by have := h1.tl _ hx; omega
  have m2 := L14.al_mod (w.alloc (.cells #[Pt A.g] 27)) (.cells #[.int .u8 (xo : Int), .int .i64 xa, .int .i64 xw] 61)
  have hb := h1.far m2
  have m3 := L14.al_mod ((w.alloc (.cells #[Pt A.g] 27)).alloc (.cells #[.int .u8 (xo : Int), .int .i64 xa, .int .i64 xw] 61)) zst
  have hz : ((w.alloc (.cells #[Pt A.g] 27)).alloc (.cells #[.int .u8 (xo : Int), .int .i64 xa, .int .i64 xw] 61)).heap.size = w.heap.size + 2 := by rw [L14.size_allocI, z1]
  have h0 := hb.far m3
  rw [z1] at kx nx
  have cp : Cap (((w.alloc (.cells #[Pt A.g] 27)).alloc (.cells #[.int .u8 (xo : Int), .int .i64 xa, .int .i64 xw] 61)).alloc zst) A T (w.heap.size + 1) w.heap.size xa := ⟨m3.cell (x := ⟨w.heap.size + 1, 1, none⟩) (by simp) (L14.cell_eq kx 1), m3.cell (x := ⟨w.heap.size, 0, none⟩) (by simp) (m2.cell (x := ⟨w.heap.size, 0, none⟩) (by simp) b1.2), nx, b1.1⟩
  have tb := Tn.far (T := T) ((L14.al_mod w (.cells #[Pt A.g] 27)).trans m2)
  have h0d := h0.far (Mod.refl [] (((w.alloc (.cells #[Pt A.g] 27)).alloc (.cells #[.int .u8 (xo : Int), .int .i64 xa, .int .i64 xw] 61)).alloc zst)).drew
  have cpd := cp.turn (Tn.far (T := T) (Mod.refl [] (((w.alloc (.cells #[Pt A.g] 27)).alloc (.cells #[.int .u8 (xo : Int), .int .i64 xa, .int .i64 xw] 61)).alloc zst)).drew)
  have lb : w.heap.size < (((w.alloc (.cells #[Pt A.g] 27)).alloc (.cells #[.int .u8 (xo : Int), .int .i64 xa, .int .i64 xw] 61)).alloc zst).drew.heap.size := World.block_lt_of_cell? _ _ cpd.g
  have H1 : Calls Tryz.prog 238 #[Pt A.g, .int .i64 1, .func (.func 243) #[] #[Pt w.heap.size, Pt (w.heap.size + 1)]] (((w.alloc (.cells #[Pt A.g] 27)).alloc (.cells #[.int .u8 (xo : Int), .int .i64 xa, .int .i64 xw] 61)).alloc zst).drew (Plays A T (((w.alloc (.cells #[Pt A.g] 27)).alloc (.cells #[.int .u8 (xo : Int), .int .i64 xa, .int .i64 xw] 61)).alloc zst).drew (.int .i64 (takingE 1 (fun l E => stepF (l.headD 0) xa E) E).1) (takingE 1 (fun l E => stepF (l.headD 0) xa E) E).2) := taking_calls h0d 1 (by decide) 243 #[Pt w.heap.size, Pt (w.heap.size + 1)] (fun xs W => by kernel_rfl) (fun l E => stepF (l.headD 0) xa E) fun hle => clos_plus cpd hx _ (by simp; omega) (fun x hx => h.i64 x (List.mem_of_mem_drop hx)) _
  have HE : I64 (takingE 1 (fun l E => stepF (l.headD 0) xa E) E).1 := taking_i64 _ _ _ fun _ _ => stepF_i64 _ _ _
  generalize takingE 1 (fun l E => stepF (l.headD 0) xa E) E = R at H1 HE ⊢
  obtain ⟨p1, p2⟩ := R
  dsimp only at H1 HE
  have HA := fun W T' (h' : Eg W A T' p2) => after_calls h' p1 HE
  generalize after (p1, p2) = S at HA ⊢
  obtain ⟨⟨s0, s1, s2⟩, E'⟩ := S
  unfold stV at HA ⊢
  dsimp only at HA ⊢
  have HA := Lib.hid HA
  have H1 := Lib.hid H1
  have HH := Lib.hid hb
  have bg := cp.g
  have ng := cp.ng
  clear h h0 hb HE hx b1 h1 z1 kx nx m2 m3 cp cpd h0d
  go_enter Tryz.func98, Tryz.ntmps98
  go_wp2_with fail
  generalize ((w.alloc (.cells #[Pt A.g] 27)).alloc (.cells #[.int .u8 (xo : Int), .int .i64 xa, .int .i64 xw] 61)) = Wb at *
  have hD := (Mod.refl [] (Wb.alloc zst)).drew
  have hne : w.heap.size ∉ [w.heap.size + 2] := by simp
  go_region_held3 (fun W => W.cell? ⟨w.heap.size, 0, none⟩ = some (Pt A.g)) (first | with_reducible exact hD.cell (x := ⟨w.heap.size, 0, none⟩) (by simp) bg | with_reducible exact e2 | with_reducible exact e3 | with_reducible exact (three_set b1 (.int .i64 s0) (.int .i64 s1) (.int .i64 s2)).2.cell (x := ⟨w.heap.size, 0, none⟩) hne e3 | fail)
    (first | ((with_reducible refine (H1.out).mono ?_); rintro e w2 ⟨rfl, T2, h2, t2⟩; have ng2 := (t2.keeps ng lb).2.1; have e2 := t2.m.cell (x := ⟨w.heap.size, 0, none⟩) ng (hD.cell (x := ⟨w.heap.size, 0, none⟩) (by simp) bg)) | ((with_reducible refine (HA.out w2 T2 h2).mono ?_); rintro e w3 ⟨rfl, T3, h3, t3⟩; have e3 := t3.m.cell (x := ⟨w.heap.size, 0, none⟩) ng2 e2; obtain ⟨b1, b2⟩ := box_beside HH.out (((Tn.far hD).trans t2).trans t3) h3; rw [hz] at b1 b2; obtain ⟨c0, c1, c2, g0, g1, g2⟩ := three_at b1) | fail)
  have HB := Lib.hid (And.intro b1 b2)
  clear b1 b2 h3 t3 h2 t2 HA H1 e2 e3 ng2 bg lb hD hne c0 c1 c2 g0 g1 g2
  go_wp2_with fail
  obtain ⟨b1, b2⟩ := HB.out
  obtain ⟨k1, k2⟩ := three_set b1 (.int .i64 s0) (.int .i64 s1) (.int .i64 s2)
  obtain ⟨h5, t5⟩ := b2 _ k2
  exact bodyPost_ret (res_st Tryz.results98 rfl k1) rfl ⟨rfl, _, h5, tb.trans t5⟩
set_option maxHeartbeats 2000000 in
set_option maxRecDepth 100000 in
theorem of_calls15 (h : Eg w A T E) (x : L10.Xi) (hx : I64 x.a) : Calls Tryz.prog 100 #[Pt A.g, insV x] w (Plays A T w (stV (after (takingE 2 (fun l E => if l.headD 0 = l.getD 1 0 then (0, E) else pushE (l.headD 0) { E with i := x.a }) E)).1) (after (takingE 2 (fun l E => if l.headD 0 = l.getD 1 0 then (0, E) else pushE (l.headD 0) { E with i := x.a }) E)).2) := by
  obtain ⟨xo, xa, xw⟩ := x
  unfold insV
  dsimp only at hx ⊢
  have b1 := new_box h (Pt A.g) 27
  have h1 := h.far (L14.al_mod w (.cells #[Pt A.g] 27))
  have z1 := L14.size_allocI w (.cells #[Pt A.g] 27)
  have kx := (MapKept.heap_alloc (w.alloc (.cells #[Pt A.g] 27)) (.cells #[.int .u8 (xo : Int), .int .i64 xa, .int .i64 xw] 61)).1
  have nx : (w.alloc (.cells #[Pt A.g] 27)).heap.size ∉ T := fun hx => by have := h1.tl _ hx; omega
  have m2 := L14.al_mod (w.alloc (.cells #[Pt A.g] 27)) (.cells #[.int .u8 (xo : Int), .int .i64 xa, .int .i64 xw] 61)
  have hb := h1.far m2
  have m3 := L14.al_mod ((w.alloc (.cells #[Pt A.g] 27)).alloc (.cells #[.int .u8 (xo : Int), .int .i64 xa, .int .i64 xw] 61)) zst
  have hz : ((w.alloc (.cells #[Pt A.g] 27)).alloc (.cells #[.int .u8 (xo : Int), .int .i64 xa, .int .i64 xw] 61)).heap.size = w.heap.size + 2 := by rw [L14.size_allocI, z1]
  have h0 := hb.far m3
  rw [z1] at kx nx
  have cp : Cap (((w.alloc (.cells #[Pt A.g] 27)).alloc (.cells #[.int .u8 (xo : Int), .int .i64 xa, .int .i64 xw] 61)).alloc zst) A T (w.heap.size + 1) w.heap.size xa := ⟨m3.cell (x := ⟨w.heap.size + 1, 1, none⟩) (by simp) (L14.cell_eq kx 1), m3.cell (x := ⟨w.heap.size, 0, none⟩) (by simp) (m2.cell (x := ⟨w.heap.size, 0, none⟩) (by simp) b1.2), nx, b1.1⟩
  have tb := Tn.far (T := T) ((L14.al_mod w (.cells #[Pt A.g] 27)).trans m2)
  have h0d := h0.far (Mod.refl [] (((w.alloc (.cells #[Pt A.g] 27)).alloc (.cells #[.int .u8 (xo : Int), .int .i64 xa, .int .i64 xw] 61)).alloc zst)).drew
  have cpd := cp.turn (Tn.far (T := T) (Mod.refl [] (((w.alloc (.cells #[Pt A.g] 27)).alloc (.cells #[.int .u8 (xo : Int), .int .i64 xa, .int .i64 xw] 61)).alloc zst)).drew)
  have lb : w.heap.size < (((w.alloc (.cells #[Pt A.g] 27)).alloc (.cells #[.int .u8 (xo : Int), .int .i64 xa, .int .i64 xw] 61)).alloc zst).drew.heap.size := World.block_lt_of_cell? _ _ cpd.g
  have H1 : Calls Tryz.prog 238 #[Pt A.g, .int .i64 2, .func (.func 244) #[] #[Pt (w.heap.size + 1), Pt w.heap.size]] (((w.alloc (.cells #[Pt A.g] 27)).alloc (.cells #[.int .u8 (xo : Int), .int .i64 xa, .int .i64 xw] 61)).alloc zst).drew (Plays A T (((w.alloc (.cells #[Pt A.g] 27)).alloc (.cells #[.int .u8 (xo : Int), .int .i64 xa, .int .i64 xw] 61)).alloc zst).drew (.int .i64 (takingE 2 (fun l E => if l.headD 0 = l.getD 1 0 then (0, E) else pushE (l.headD 0) { E with i := xa }) E).1) (takingE 2 (fun l E => if l.headD 0 = l.getD 1 0 then (0, E) else pushE (l.headD 0) { E with i := xa }) E).2) := taking_calls h0d 2 (by decide) 244 #[Pt (w.heap.size + 1), Pt w.heap.size] (fun xs W => by kernel_rfl) (fun l E => if l.headD 0 = l.getD 1 0 then (0, E) else pushE (l.headD 0) { E with i := xa }) fun hle => clos_of cpd hx _ (by simp; omega) (fun x hx => h.i64 x (List.mem_of_mem_drop hx)) _
  have HE : I64 (takingE 2 (fun l E => if l.headD 0 = l.getD 1 0 then (0, E) else pushE (l.headD 0) { E with i := xa }) E).1 := taking_i64 _ _ _ fun _ _ => by split; exact i64_0; exact push_i64 _ _
  generalize takingE 2 (fun l E => if l.headD 0 = l.getD 1 0 then (0, E) else pushE (l.headD 0) { E with i := xa }) E = R at H1 HE ⊢
  obtain ⟨p1, p2⟩ := R
  dsimp only at H1 HE
  have HA := fun W T' (h' : Eg W A T' p2) => after_calls h' p1 HE
  generalize after (p1, p2) = S at HA ⊢
  obtain ⟨⟨s0, s1, s2⟩, E'⟩ := S
  unfold stV at HA ⊢
  dsimp only at HA ⊢
  have HA := Lib.hid HA
  have H1 := Lib.hid H1
  have HH := Lib.hid hb
  have bg := cp.g
  have ng := cp.ng
  clear h h0 hb HE hx b1 h1 z1 kx nx m2 m3 cp cpd h0d
  go_enter Tryz.func100, Tryz.ntmps100
  go_wp2_with fail
  generalize ((w.alloc (.cells #[Pt A.g] 27)).alloc (.cells #[.int .u8 (xo : Int), .int .i64 xa, .int .i64 xw] 61)) = Wb at *
  have hD := (Mod.refl [] (Wb.alloc zst)).drew
  have hne : w.heap.size ∉ [w.heap.size + 2] := by simp
  go_region_held3 (fun W => W.cell? ⟨w.heap.size, 0, none⟩ = some (Pt A.g)) (first | with_reducible exact hD.cell (x := ⟨w.heap.size, 0, none⟩) (by simp) bg | with_reducible exact e2 | with_reducible exact e3 | with_reducible exact (three_set b1 (.int .i64 s0) (.int .i64 s1) (.int .i64 s2)).2.cell (x := ⟨w.heap.size, 0, none⟩) hne e3 | fail)
    (first | ((with_reducible refine (H1.out).mono ?_); rintro e w2 ⟨rfl, T2, h2, t2⟩; have ng2 := (t2.keeps ng lb).2.1; have e2 := t2.m.cell (x := ⟨w.heap.size, 0, none⟩) ng (hD.cell (x := ⟨w.heap.size, 0, none⟩) (by simp) bg)) | ((with_reducible refine (HA.out w2 T2 h2).mono ?_); rintro e w3 ⟨rfl, T3, h3, t3⟩; have e3 := t3.m.cell (x := ⟨w.heap.size, 0, none⟩) ng2 e2; obtain ⟨b1, b2⟩ := box_beside HH.out (((Tn.far hD).trans t2).trans t3) h3; rw [hz] at b1 b2; obtain ⟨c0, c1, c2, g0, g1, g2⟩ := three_at b1) | fail)
  have HB := Lib.hid (And.intro b1 b2)
  clear b1 b2 h3 t3 h2 t2 HA H1 e2 e3 ng2 bg lb hD hne c0 c1 c2 g0 g1 g2
  go_wp2_with fail
  obtain ⟨b1, b2⟩ := HB.out
  obtain ⟨k1, k2⟩ := three_set b1 (.int .i64 s0) (.int .i64 s1) (.int .i64 s2)
  obtain ⟨h5, t5⟩ := b2 _ k2
  exact bodyPost_ret (res_st Tryz.results100 rfl k1) rfl ⟨rfl, _, h5, tb.trans t5⟩
set_option maxHeartbeats 2000000 in
set_option maxRecDepth 100000 in
theorem to_calls15 (h : Eg w A T E) (x : L10.Xi) (hx : I64 x.a) : Calls Tryz.prog 104 #[Pt A.g, insV x] w (Plays A T w (stV (after (takingE 1 (fun l E => if (L14.localL x.a E.F).isSome then (0, { E with F := L14.setL x.a (l.headD 0) E.F }) else (-6, E)) E)).1) (after (takingE 1 (fun l E => if (L14.localL x.a E.F).isSome then (0, { E with F := L14.setL x.a (l.headD 0) E.F }) else (-6, E)) E)).2) := by
  obtain ⟨xo, xa, xw⟩ := x
  unfold insV
  dsimp only at hx ⊢
  have b1 := new_box h (Pt A.g) 27
  have h1 := h.far (L14.al_mod w (.cells #[Pt A.g] 27))
  have z1 := L14.size_allocI w (.cells #[Pt A.g] 27)
  have kx := (MapKept.heap_alloc (w.alloc (.cells #[Pt A.g] 27)) (.cells #[.int .u8 (xo : Int), .int .i64 xa, .int .i64 xw] 61)).1
  have nx : (w.alloc (.cells #[Pt A.g] 27)).heap.size ∉ T := fun hx => by have := h1.tl _ hx; omega
  have m2 := L14.al_mod (w.alloc (.cells #[Pt A.g] 27)) (.cells #[.int .u8 (xo : Int), .int .i64 xa, .int .i64 xw] 61)
  have hb := h1.far m2
  have m3 := L14.al_mod ((w.alloc (.cells #[Pt A.g] 27)).alloc (.cells #[.int .u8 (xo : Int), .int .i64 xa, .int .i64 xw] 61)) zst
  have hz : ((w.alloc (.cells #[Pt A.g] 27)).alloc (.cells #[.int .u8 (xo : Int), .int .i64 xa, .int .i64 xw] 61)).heap.size = w.heap.size + 2 := by rw [L14.size_allocI, z1]
  have h0 := hb.far m3
  rw [z1] at kx nx
  have cp : Cap (((w.alloc (.cells #[Pt A.g] 27)).alloc (.cells #[.int .u8 (xo : Int), .int .i64 xa, .int .i64 xw] 61)).alloc zst) A T (w.heap.size + 1) w.heap.size xa := ⟨m3.cell (x := ⟨w.heap.size + 1, 1, none⟩) (by simp) (L14.cell_eq kx 1), m3.cell (x := ⟨w.heap.size, 0, none⟩) (by simp) (m2.cell (x := ⟨w.heap.size, 0, none⟩) (by simp) b1.2), nx, b1.1⟩
  have tb := Tn.far (T := T) ((L14.al_mod w (.cells #[Pt A.g] 27)).trans m2)
  have h0d := h0.far (Mod.refl [] (((w.alloc (.cells #[Pt A.g] 27)).alloc (.cells #[.int .u8 (xo : Int), .int .i64 xa, .int .i64 xw] 61)).alloc zst)).drew
  have cpd := cp.turn (Tn.far (T := T) (Mod.refl [] (((w.alloc (.cells #[Pt A.g] 27)).alloc (.cells #[.int .u8 (xo : Int), .int .i64 xa, .int .i64 xw] 61)).alloc zst)).drew)
  have lb : w.heap.size < (((w.alloc (.cells #[Pt A.g] 27)).alloc (.cells #[.int .u8 (xo : Int), .int .i64 xa, .int .i64 xw] 61)).alloc zst).drew.heap.size := World.block_lt_of_cell? _ _ cpd.g
  have H1 : Calls Tryz.prog 238 #[Pt A.g, .int .i64 1, .func (.func 247) #[] #[Pt w.heap.size, Pt (w.heap.size + 1)]] (((w.alloc (.cells #[Pt A.g] 27)).alloc (.cells #[.int .u8 (xo : Int), .int .i64 xa, .int .i64 xw] 61)).alloc zst).drew (Plays A T (((w.alloc (.cells #[Pt A.g] 27)).alloc (.cells #[.int .u8 (xo : Int), .int .i64 xa, .int .i64 xw] 61)).alloc zst).drew (.int .i64 (takingE 1 (fun l E => if (L14.localL xa E.F).isSome then (0, { E with F := L14.setL xa (l.headD 0) E.F }) else (-6, E)) E).1) (takingE 1 (fun l E => if (L14.localL xa E.F).isSome then (0, { E with F := L14.setL xa (l.headD 0) E.F }) else (-6, E)) E).2) := taking_calls h0d 1 (by decide) 247 #[Pt w.heap.size, Pt (w.heap.size + 1)] (fun xs W => by kernel_rfl) (fun l E => if (L14.localL xa E.F).isSome then (0, { E with F := L14.setL xa (l.headD 0) E.F }) else (-6, E)) fun hle => clos_to cpd hx _ (by simp; omega) (fun x hx => h.i64 x (List.mem_of_mem_drop hx)) _
  have HE : I64 (takingE 1 (fun l E => if (L14.localL xa E.F).isSome then (0, { E with F := L14.setL xa (l.headD 0) E.F }) else (-6, E)) E).1 := taking_i64 _ _ _ fun _ _ => by split; exact i64_0; exact i64_of_small (by dsimp only; omega)
  generalize takingE 1 (fun l E => if (L14.localL xa E.F).isSome then (0, { E with F := L14.setL xa (l.headD 0) E.F }) else (-6, E)) E = R at H1 HE ⊢
  obtain ⟨p1, p2⟩ := R
  dsimp only at H1 HE
  have HA := fun W T' (h' : Eg W A T' p2) => after_calls h' p1 HE
  generalize after (p1, p2) = S at HA ⊢
  obtain ⟨⟨s0, s1, s2⟩, E'⟩ := S
  unfold stV at HA ⊢
  dsimp only at HA ⊢
  have HA := Lib.hid HA
  have H1 := Lib.hid H1
  have HH := Lib.hid hb
  have bg := cp.g
  have ng := cp.ng
  clear h h0 hb HE hx b1 h1 z1 kx nx m2 m3 cp cpd h0d
  go_enter Tryz.func104, Tryz.ntmps104
  go_wp2_with fail
  generalize ((w.alloc (.cells #[Pt A.g] 27)).alloc (.cells #[.int .u8 (xo : Int), .int .i64 xa, .int .i64 xw] 61)) = Wb at *
  have hD := (Mod.refl [] (Wb.alloc zst)).drew
  have hne : w.heap.size ∉ [w.heap.size + 2] := by simp
  go_region_held3 (fun W => W.cell? ⟨w.heap.size, 0, none⟩ = some (Pt A.g)) (first | with_reducible exact hD.cell (x := ⟨w.heap.size, 0, none⟩) (by simp) bg | with_reducible exact e2 | with_reducible exact e3 | with_reducible exact (three_set b1 (.int .i64 s0) (.int .i64 s1) (.int .i64 s2)).2.cell (x := ⟨w.heap.size, 0, none⟩) hne e3 | fail)
    (first | ((with_reducible refine (H1.out).mono ?_); rintro e w2 ⟨rfl, T2, h2, t2⟩; have ng2 := (t2.keeps ng lb).2.1; have e2 := t2.m.cell (x := ⟨w.heap.size, 0, none⟩) ng (hD.cell (x := ⟨w.heap.size, 0, none⟩) (by simp) bg)) | ((with_reducible refine (HA.out w2 T2 h2).mono ?_); rintro e w3 ⟨rfl, T3, h3, t3⟩; have e3 := t3.m.cell (x := ⟨w.heap.size, 0, none⟩) ng2 e2; obtain ⟨b1, b2⟩ := box_beside HH.out (((Tn.far hD).trans t2).trans t3) h3; rw [hz] at b1 b2; obtain ⟨c0, c1, c2, g0, g1, g2⟩ := three_at b1) | fail)
  have HB := Lib.hid (And.intro b1 b2)
  clear b1 b2 h3 t3 h2 t2 HA H1 e2 e3 ng2 bg lb hD hne c0 c1 c2 g0 g1 g2
  go_wp2_with fail
  obtain ⟨b1, b2⟩ := HB.out
  obtain ⟨k1, k2⟩ := three_set b1 (.int .i64 s0) (.int .i64 s1) (.int .i64 s2)
  obtain ⟨h5, t5⟩ := b2 _ k2
  exact bodyPost_ret (res_st Tryz.results104 rfl k1) rfl ⟨rfl, _, h5, tb.trans t5⟩
end
end Go.Proofs.YtifnkmddinoneaaGreatDoor
