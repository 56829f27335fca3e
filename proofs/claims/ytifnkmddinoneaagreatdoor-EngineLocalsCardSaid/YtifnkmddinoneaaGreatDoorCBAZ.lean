/- Layer 15: the engine's own words, out of its map; a word is executed. Condition: the block is an engine (Eg); of the state's Do what is said. Layer 15: an instruction, packed and read again. Condition: the block is an engine (Eg). Layer 15: the instruction at a place. Condition: the block is an engine (Eg). Layer 15: the instructions, out of the engine's map. Condition: the block is an engine (Eg); of the state's Do what is said. Layer 15: an instruction is executed. Condition: the block is an engine (Eg); of the state's Do what is said. Layer 15: what the uppermost frame stands for ends. Condition: the block is an engine (Eg). -/
import Derived.Test.YtifnkmddinoneaaGreatDoorCBAY
import Derived.Deep.Cut
import Derived.Deep.DeepCutAuto
set_option maxRecDepth 100000
namespace Go.Proofs.YtifnkmddinoneaaGreatDoor
open Go.RowKit
set_option linter.unusedVariables false
section
variable {w w' : World} {A : Ag} {E : Es} {T : List Nat}
theorem ctl_calls (n : Nat) (F : FuncId) (hF : ctlF n = some F) (hn : 1 ≤ n ∧ n ≤ 9) (W : World) (T' : List Nat) (h : Eg W A T' E) : Calls Tryz.prog F #[Pt A.g] W (Plays A T' W (stV (after (ctlE n E)).1) (after (ctlE n E)).2) := by
  have h2 : n = 1 ∨ n = 2 ∨ n = 3 ∨ n = 4 ∨ n = 5 ∨ n = 6 ∨ n = 7 ∨ n = 8 ∨ n = 9 := by omega
  rcases h2 with rfl | rfl | rfl | rfl | rfl | rfl | rfl | rfl | rfl
  all_goals
    injection hF with hF
    subst hF
  · rw [show ctlE ((1 : Nat) : Int) E = takingE 1 (fun l E => frameE ⟨2, 0, 0, l.headD 0, 0, []⟩ E) E by unfold ctlE; simp]
    exact tor_calls h
  · rw [show ((2 : Nat) : Int) = 2 from rfl]; exact fromr_calls h
  · rw [show ctlE ((3 : Nat) : Int) E = cellE E by unfold ctlE; simp]
    exact copyr_calls h
  · rw [show ctlE ((4 : Nat) : Int) E = indexE 0 E by unfold ctlE; simp]
    exact inner_calls h
  · rw [show ctlE ((5 : Nat) : Int) E = indexE 1 E by unfold ctlE; simp]
    exact outer_calls h
  · rw [show ctlE ((6 : Nat) : Int) E = unloopE E by unfold ctlE; simp]
    exact unloop_calls h
  · rw [show ((7 : Nat) : Int) = 7 from rfl]; exact execute_taken h
  · rw [show ((8 : Nat) : Int) = 8 from rfl]; exact catch_taken h
  · rw [show ((9 : Nat) : Int) = 9 from rfl]; exact throw_taken h
set_option maxRecDepth 100000 in
theorem ctl_enters (n : Nat) (F : FuncId) (hF : ctlF n = some F) (hn : 1 ≤ n ∧ n ≤ 9) : Enters F := by
  have h2 : n = 1 ∨ n = 2 ∨ n = 3 ∨ n = 4 ∨ n = 5 ∨ n = 6 ∨ n = 7 ∨ n = 8 ∨ n = 9 := by omega
  rcases h2 with rfl | rfl | rfl | rfl | rfl | rfl | rfl | rfl | rfl
  all_goals
    injection hF with hF
    subst hF
    exact fun xs W => by kernel_rfl
theorem ctl_some (n : Nat) (hn : 1 ≤ n ∧ n ≤ 9) : ∃ F, ctlF n = some F := by
  have h2 : n = 1 ∨ n = 2 ∨ n = 3 ∨ n = 4 ∨ n = 5 ∨ n = 6 ∨ n = 7 ∨ n = 8 ∨ n = 9 := by omega
  rcases h2 with rfl | rfl | rfl | rfl | rfl | rfl | rfl | rfl | rfl <;> exact ⟨_, rfl⟩
theorem Eg.maps (h : Eg w A T E) : Maps w A ∧ w.cell? ⟨A.g, 9, none⟩ = some (.map (some A.M1)) ∧ w.cell? ⟨A.g, 10, none⟩ = some (.map (some A.M2)) ∧ w.cell? ⟨A.g, 11, none⟩ = some (.map (some A.M3)) := by
  obtain ⟨v, Ts, Tf, Ti, h⟩ := h
  exact ⟨h.mp, h.own.c9, h.own.c10, h.own.c11⟩
theorem zero_ctl (W : World) : (zeroValue 64).run Tryz.prog W = .ok .nilFunc W := by kernel_rfl
set_option maxHeartbeats 2000000 in
set_option maxRecDepth 100000 in
theorem exec_ctl (h : Eg w A T E) (n : Int) {x : Wd} (hx : E.word n = some x) (hk : x.k = 2) : Calls Tryz.prog 55 #[Pt A.g, .int .i64 n] w (Plays A T w (stV (after (ctlE x.n E)).1) (after (ctlE x.n E)).2) := by
  have h0 := h.far (L14.al_mod w zst)
  have H1 := word_yes h0 n hx
  have hw := h.ok.w x (by unfold Es.word at hx; split at hx; exact List.mem_of_getElem? hx; cases hx)
  obtain ⟨xk, xn, xw⟩ := x
  obtain ⟨_, _, _, _, hct⟩ := hw
  dsimp only at hk hct
  subst hk
  obtain ⟨m, rfl⟩ : ∃ m : Nat, xn = (m : Int) := ⟨xn.toNat, by have := hct rfl; omega⟩
  have hm : 1 ≤ m ∧ m ≤ 9 := by have := hct rfl; omega
  obtain ⟨F, hF⟩ := ctl_some m hm
  have HC := fun W T' (h' : Eg W A T' E) => ctl_calls m F hF hm W T' h'
  have hen := ctl_enters m F hF hm
  unfold wdV at H1
  dsimp only at H1 ⊢
  generalize after (ctlE (m : Int) E) = S at HC ⊢
  obtain ⟨⟨s0, s1, s2⟩, E'⟩ := S
  unfold stV at HC ⊢
  dsimp only at HC ⊢
  obtain ⟨mp, _, c10, _⟩ := h0.maps
  obtain ⟨f, hf, hf2⟩ := mp.m2
  have hfm := hf2 m F hF
  have H1 := Lib.hid H1
  have HC := Lib.hid HC
  have HE := Lib.hid hen
  have HH := Lib.hid h
  have H0 := Lib.hid h0
  have HF := Lib.hid (And.intro hf hfm)
  clear hx hct hF hm hen h h0 hf hfm hf2 mp
  go_enter Tryz.func55, Tryz.ntmps55
  go_wp2_with fail
  refine (H1.out).mono ?_
  rintro e w1 ⟨rfl, k1⟩
  have WB := (MapKept.heap_alloc w1 (.cells #[.int .i64 2, .int .i64 (m : Int), .int .i64 xw] TW15)).1
  have kX := k1.trans (L14.al_mod w1 (.cells #[.int .i64 2, .int .i64 (m : Int), .int .i64 xw] TW15))
  have np : w1.heap.size ∉ T := fun hx => by have h1 := HH.out.tl _ hx; have h2 := k1.size; rw [L14.size_allocI] at h2; omega
  have lp := (Array.getElem?_eq_some_iff.1 WB).1
  have ne : w1.heap.size ≠ w.heap.size := by have h2 := k1.size; rw [L14.size_allocI] at h2; omega
  have c10x := kX.cell (x := ⟨A.g, 10, none⟩) (by simp) c10
  have c10y := k1.cell (x := ⟨A.g, 10, none⟩) (by simp) c10
  have lg : A.g < w1.heap.size := World.block_lt_of_cell? _ _ c10y
  clear H1 c10 k1
  go_wp2_with fail
  clear lg c10y
  generalize (w1.alloc (.cells #[.int .i64 2, .int .i64 (m : Int), .int .i64 xw] TW15)) = X at *
  generalize w1.heap.size = p at *
  have d1 : X.cell? ⟨p, 1, none⟩ = some (.int .i64 (m : Int)) := (three_at WB).2.1
  have hD := (Mod.refl [] X).drew
  have hlook := MapV.at (P := Tryz.prog) Tryz.underlying88 Tryz.underlying3 (zero_ctl X.drew) (HF.out.1.far (kX.trans hD)) (m : Int)
  rw [HF.out.2] at hlook
  unfold mval at hlook
  dsimp only [Option.getD] at hlook
  have he := HE.out #[Pt A.g] X.drew
  have H2x := Lib.hid (HC.out X.drew T (H0.out.far (kX.trans hD)))
  have ng : A.g ≠ w.heap.size := fun e => by have h1 := World.block_lt_of_cell? _ _ HH.out.cs.c3; simp only at h1; omega
  have hne1 : p ∉ [w.heap.size] := by simpa using ne
  have hne2 : A.g ∉ [w.heap.size] := by simpa using ng
  have HKX := Lib.hid kX
  clear WB kX HF HE HC
  go_region_held3 (fun W => W.cell? ⟨A.g, 10, none⟩ = some (.map (some A.M2)) ∧ W.cell? ⟨p, 1, none⟩ = some (.int .i64 (m : Int))) (first | with_reducible exact ⟨hD.cell (x := ⟨A.g, 10, none⟩) (by simp) c10x, hD.cell (x := ⟨p, 1, none⟩) (by simp) d1⟩ | with_reducible exact ⟨e3, d3⟩ | with_reducible exact ⟨(three_set b1 (.int .i64 s0) (.int .i64 s1) (.int .i64 s2)).2.cell (x := ⟨A.g, 10, none⟩) hne2 e3, (three_set b1 (.int .i64 s0) (.int .i64 s1) (.int .i64 s2)).2.cell (x := ⟨p, 1, none⟩) hne1 d3⟩ | fail)
    (first | ((with_reducible refine (H2x.out).mono ?_); rintro e w3 ⟨rfl, T3, h3, t3⟩; have e3 := h3.maps.2.2.1; have d3 := t3.m.cell (x := ⟨p, 1, none⟩) np (hD.cell (x := ⟨p, 1, none⟩) (by simp) d1); obtain ⟨b1, b2⟩ := box_beside HH.out ((Tn.far (HKX.out.trans hD)).trans t3) h3; obtain ⟨c0, c1, c2, g0, g1, g2⟩ := three_at b1) | fail)
  have HB := Lib.hid (And.intro b1 b2)
  clear b1 b2 h3 t3 e3 d3 hD hne1 hne2 c0 c1 c2 g0 g1 g2 H2x d1 c10x np lp ne ng hlook he
  go_wp2_with fail
  obtain ⟨b1, b2⟩ := HB.out
  obtain ⟨k1, k2⟩ := three_set b1 (.int .i64 s0) (.int .i64 s1) (.int .i64 s2)
  obtain ⟨h5, t5⟩ := b2 _ k2
  exact bodyPost_ret (res_st Tryz.results55 rfl k1) rfl ⟨rfl, _, h5, t5⟩
def StepsTo (A : Ag) (T : List Nat) (w : World) (R : (Int × List Int × Mu) → Sv × Es) (pr : Option Int) (Q : Int → List Int → Mu → Prop) (e : Ending) (w' : World) : Prop := ∃ r : Int × List Int × Mu, (pr ≠ none → Q r.1 r.2.1 r.2.2) ∧ Plays A T w (stV (R r).1) (R r).2 e w'
set_option maxHeartbeats 1000000 in
theorem exec_none (h : Eg w A T E) (n : Int) (hx : E.word n = none) : Calls Tryz.prog 55 #[Pt A.g, .int .i64 n] w (Plays A T w (stV (throwE (-9) E).1) (throwE (-9) E).2) := by
  have h0 := h.far (L14.al_mod w zst)
  have H1 := word_no h0 n hx
  have H2 := fun W (m : Mod [] (w.alloc zst) W) => throw_calls (h0.far m) (-9) (i64_of_small (by omega))
  unfold wdV at H1
  dsimp only at H1
  generalize throwE (-9) E = S at H2 ⊢
  obtain ⟨⟨s0, s1, s2⟩, E'⟩ := S
  have H1 := Lib.hid H1
  have H2 := Lib.hid H2
  have HH := Lib.hid h
  clear h h0 hx
  go_enter Tryz.func55, Tryz.ntmps55
  go_wp2_with fail
  refine (H1.out).mono ?_
  rintro e w1 ⟨rfl, k1⟩
  have HK := Lib.hid k1
  clear k1 H1
  go_wp2_with fail
  refine (H2.out _ (HK.out.trans (L14.al_mod _ _))).mono ?_
  rintro e w2 ⟨rfl, T2, h2, t2⟩
  obtain ⟨b1, b2⟩ := box_beside HH.out ((Tn.far (HK.out.trans (L14.al_mod _ _))).trans t2) h2
  obtain ⟨c0, c1, c2, g0, g1, g2⟩ := three_at b1
  have HB := Lib.hid (And.intro b1 b2)
  clear b1 b2 h2 t2 H2
  unfold stV
  dsimp only
  go_wp2_with fail
  obtain ⟨b1, b2⟩ := HB.out
  obtain ⟨k1, k2⟩ := three_set b1 (.int .i64 s0) (.int .i64 s1) (.int .i64 s2)
  obtain ⟨h5, t5⟩ := b2 _ k2
  exact bodyPost_ret (res_st Tryz.results55 rfl k1) rfl ⟨rfl, _, h5, t5⟩
theorem execute_calls (h : Eg w A T E) (n : Int) (Q : Int → List Int → Mu → Prop) (hQ : ∀ m, primW n E = some m → DoQ A E.C E.μ m Q) : Calls Tryz.prog 55 #[Pt A.g, .int .i64 n] w (StepsTo A T w (fun r => execE r n E) (primW n E) Q) := by
  cases hx : E.word n with
  | none =>
    refine (exec_none h n hx).mono fun e w' hp => ⟨(0, [], E.μ), ?_, ?_⟩
    · unfold primW; rw [hx]; intro h; exact absurd rfl h
    · unfold execE; rw [hx]; exact hp
  | some x =>
    have hw := h.ok.w x (by unfold Es.word at hx; split at hx; exact List.mem_of_getElem? hx; cases hx)
    have hp : primW n E = if x.k = 1 then some x.n else none := by unfold primW; rw [hx]; rfl
    have he : ∀ r, execE r n E = if x.k = 1 then after (r.1, { E with C := r.2.1, μ := r.2.2 }) else if x.k = 2 then after (ctlE x.n E) else if x.k = 3 ∨ x.k = 4 then ((2, x.k, x.n), E) else if x.k = 5 then after (callE x.n E) else if x.k = 7 then after (doesE x.w x.n E) else if x.k = 8 then after (forwardE x.n E) else after (pushE x.w E) := fun r => by unfold execE; rw [hx]
    have hk := hw.1
    have hk2 := hw.2.1
    have h9 : x.k = 1 ∨ x.k = 2 ∨ x.k = 3 ∨ x.k = 4 ∨ x.k = 5 ∨ x.k = 6 ∨ x.k = 7 ∨ x.k = 8 ∨ x.k = 9 := by omega
    rcases h9 with hk | hk | hk | hk | hk | hk | hk | hk | hk
    · refine (exec_prim h n hx hk Q (hQ _ (by rw [hp, if_pos hk]))).mono fun e w' ⟨r, h1, h2⟩ => ⟨r, fun _ => h1, ?_⟩
      dsimp only
      rw [he, if_pos hk]; exact h2
    all_goals
      have hn : primW n E = none := by rw [hp, if_neg (by omega)]
      rw [hn]
    · refine (exec_ctl h n hx hk).mono fun e w' hp => ⟨(0, [], E.μ), fun h => absurd rfl h, ?_⟩
      dsimp only
      rw [he, if_neg (by omega), if_pos hk]; exact hp
    · refine (exec_flow h n hx hk).mono fun e w' hp => ⟨(0, [], E.μ), fun h => absurd rfl h, ?_⟩
      dsimp only
      rw [he, if_neg (by omega), if_neg (by omega), if_pos (Or.inl hk), hk]; exact hp
    · refine (exec_host h n hx hk).mono fun e w' hp => ⟨(0, [], E.μ), fun h => absurd rfl h, ?_⟩
      dsimp only
      rw [he, if_neg (by omega), if_neg (by omega), if_pos (Or.inr hk), hk]; exact hp
    · refine (exec_colon h n hx hk).mono fun e w' hp => ⟨(0, [], E.μ), fun h => absurd rfl h, ?_⟩
      dsimp only
      rw [he, if_neg (by omega), if_neg (by omega), if_neg (by omega), if_pos hk]; exact hp
    · refine (exec_cell h n hx hk).mono fun e w' hp => ⟨(0, [], E.μ), fun h => absurd rfl h, ?_⟩
      dsimp only
      rw [he, if_neg (by omega), if_neg (by omega), if_neg (by omega), if_neg (by omega), if_neg (by omega), if_neg (by omega)]; exact hp
    · refine (exec_does h n hx hk).mono fun e w' hp => ⟨(0, [], E.μ), fun h => absurd rfl h, ?_⟩
      dsimp only
      rw [he, if_neg (by omega), if_neg (by omega), if_neg (by omega), if_neg (by omega), if_pos hk]; exact hp
    · refine (exec_defer h n hx hk).mono fun e w' hp => ⟨(0, [], E.μ), fun h => absurd rfl h, ?_⟩
      dsimp only
      rw [he, if_neg (by omega), if_neg (by omega), if_neg (by omega), if_neg (by omega), if_neg (by omega), if_pos hk]; exact hp
    · refine (exec_value h n hx hk).mono fun e w' hp => ⟨(0, [], E.μ), fun h => absurd rfl h, ?_⟩
      dsimp only
      rw [he, if_neg (by omega), if_neg (by omega), if_neg (by omega), if_neg (by omega), if_neg (by omega), if_neg (by omega)]; exact hp
end
end Go.Proofs.YtifnkmddinoneaaGreatDoor
namespace Go.Proofs.YtifnkmddinoneaaGreatDoor
open Go.RowKit
set_option linter.unusedVariables false
section
variable {w w' : World} {A : Ag} {E : Es} {T : List Nat}
abbrev TI15 : TypeId := 61
theorem res_in {fn : Func} {a : Nat} (h : fn.results = #[.cell a TI15]) {tmps : Array Value} {b : Nat} (ht : tmps[a]? = some (Pt b)) {W : World} {v0 v1 v2 : Value} {t : TypeId} (hb : W.heap[b]? = some (.cells #[v0, v1, v2] t (0, 0))) :
    (results fn tmps).run Tryz.prog W = .ok (.agg #[v0, v1, v2]) W := by
  obtain ⟨c0, c1, c2, _⟩ := three_at hb
  simp [results, h, ht, go_sem, c0, c1, c2]
theorem res_in2 {fn : Func} {a c : Nat} (h : fn.results = #[.cell a TI15, .tmp c]) {tmps : Array Value} {b : Nat} (ht : tmps[a]? = some (Pt b)) {W : World} {v0 v1 v2 : Value} {t : TypeId} (hb : W.heap[b]? = some (.cells #[v0, v1, v2] t (0, 0))) :
    (results fn tmps).run Tryz.prog W = .ok (.tuple #[.agg #[v0, v1, v2], tmps.getD c undef]) W := by
  obtain ⟨c0, c1, c2, _⟩ := three_at hb
  simp [results, h, ht, go_sem, c0, c1, c2]
theorem instr_calls (x : L10.Xi) (hx : OkX x) (W : World) : Calls Tryz.prog 260 #[.agg #[.int .i64 (packX x), .int .i64 x.w]] W fun e w' => e = .returned (insV x) ∧ Mod [] W w' := by
  obtain ⟨xo, xa, xw⟩ := x
  obtain ⟨h1, h2, h3, h4, h5⟩ := hx
  unfold insV packX
  dsimp only at h1 h2 h3 h4 h5 ⊢
  obtain ⟨P, hP⟩ : ∃ P, P = xa * 256 + (xo : Int) := ⟨_, rfl⟩
  rw [← hP]
  go_enter Tryz.func260, Tryz.ntmps260
  go_wp2_with fail
  have e1 : (xo : Int) % 256 = (xo : Int) := by omega
  have e2 : (xa * 256 + (xo : Int)) / 256 = xa := by omega
  rw [e1, e2]
  have hb := (MapKept.heap_alloc (W.alloc (.cells #[.int .i64 (xa * 256 + (xo : Int)), .int .i64 xw] 133)) (.cells #[.int .u8 (xo : Int), .int .i64 xa, .int .i64 xw] TI15)).1
  rw [L14.size_allocI] at hb
  exact bodyPost_ret (res_in Tryz.results260 rfl hb) rfl ⟨rfl, (L14.al_mod W _).trans (L14.al_mod _ _)⟩
def Es.at (E : Es) (d i : Int) : Option L10.Xi := (E.code d).bind fun l => if 0 ≤ i then l[i.toNat]? else none
abbrev zin : Obj := .cells #[.int .u8 0, .int .i64 0, .int .i64 0] TI15
abbrev posB (d i : Int) : Obj := .cells #[.int .i64 d, .int .i64 i] 86
theorem zin_box (W : World) : (W.alloc zin).heap[W.heap.size]? = some zin := (MapKept.heap_alloc W _).1
set_option maxHeartbeats 2000000 in
theorem at_none (h : Eg w A T E) (d i : Int) (hn : E.code d = none) : Calls Tryz.prog 115 #[Pt A.g, .agg #[.int .i64 d, .int .i64 i]] w fun e w' => e = .returned (.tuple #[.agg #[.int .u8 0, .int .i64 0, .int .i64 0], .bool false]) ∧ Mod [] w w' := by
  have m1 := L14.al_mod w (posB d i)
  have m2 := L14.al_mod (w.alloc (posB d i)) zin
  have H1 := isdef_calls (h.far (m1.trans m2)) d
  rw [hn] at H1
  have H1 := Lib.hid H1
  have hz := L14.size_allocI w (posB d i)
  have HM := Lib.hid (m1.trans m2)
  clear h hn m1 m2
  go_enter Tryz.func115, Tryz.ntmps115
  go_wp2_with fail
  refine (H1.out).mono ?_
  rintro e w1 ⟨rfl, rfl⟩
  go_wp2_with fail
  have hb := zin_box (w.alloc (posB d i))
  rw [hz] at hb
  exact bodyPost_ret (res_in2 Tryz.results115 rfl hb) rfl ⟨rfl, HM.out⟩
theorem Eg.packs (h : Eg w A T E) {n : Int} {l : List L10.Xi} (hn : E.code n = some l) : ∃ (B : List (List L10.Xi)) (R : List (List L10.Xi)) (b N c : Nat), E.D = B ++ l :: R ∧ n = (B.length : Int) + 1 ∧ upE E.D B.length + l.length = upE E.D (B.length + 1) ∧ upE E.D (B.length + 1) ≤ N ∧ N ≤ 150000 ∧ N ≤ c ∧ w.cell? ⟨A.g, 0, none⟩ = some (.slice (some ⟨b, 0, none⟩) N c) ∧ (∀ x ∈ l, OkX x) ∧ 1 ≤ l.length ∧ l.length ≤ 500 ∧
    ∀ (i : Nat) x, l[i]? = some x → w.cell? ⟨b, (upE E.D B.length + i) * 2, none⟩ = some (.int .i64 (packX x)) ∧ w.cell? ⟨b, (upE E.D B.length + i) * 2 + 1, none⟩ = some (.int .i64 x.w) := by
  obtain ⟨v, Ts, Tf, Ti, h⟩ := h
  obtain ⟨B, R, e, hk⟩ := Es.code_at hn
  have hr := h.own.rp
  have c0 := h.own.c0
  have hl := h.ok.x l (by rw [e]; simp)
  have hdl := h.ok.d
  have hall : ∀ l ∈ E.D, l.length ≤ 500 := fun l hl => (h.ok.x l hl).2.2
  have hN := flat_len E.D 500 hall
  have u0 : upE E.D B.length = B.flatten.length := by rw [e]; exact upE_app _ _
  have u1 : upE E.D (B.length + 1) = B.flatten.length + l.length := by rw [e]; exact upE_snoc _ _ _
  have hfl : E.D.flatten = B.flatten ++ (l ++ R.flatten) := by rw [e]; simp
  have hle : E.D.flatten.length = B.flatten.length + l.length + R.flatten.length := by rw [hfl]; simp; omega
  rcases hr.2 with ⟨_, h0⟩ | ⟨b, cap, cur, hv, _, _, hcap, _⟩
  · omega
  · rw [hv] at c0 hr
    refine ⟨B, R, b, E.D.flatten.length, cap, e, hk, by omega, by omega, by omega, hcap, c0, hl.1, hl.2.1, hl.2.2, fun i x hx => ?_⟩
    have hi := (List.getElem?_eq_some_iff.1 hx).1
    have e2 : E.D.flatten = (B.flatten ++ l.take i) ++ x :: (l.drop (i + 1) ++ R.flatten) := by
      rw [hfl]
      have : l = l.take i ++ x :: l.drop (i + 1) := by
        have hx2 := (List.getElem?_eq_some_iff.1 hx).2
        rw [← hx2, ← List.drop_eq_getElem_cons hi, List.take_append_drop]
      conv => lhs; rw [this]
      simp
    have l2 : (B.flatten ++ l.take i).length = upE E.D B.length + i := by rw [u0]; simp; omega
    have get : ∀ j, j < 2 → w.cell? ⟨b, (upE E.D B.length + i) * 2 + j, none⟩ = (flatX x)[j]? := fun j hj => by
      rw [hr.cellAt ((upE E.D B.length + i) * 2 + j) (by omega), ← l2, e2, flatX_get _ x _ j hj]
    exact ⟨get 0 (by omega), get 1 (by omega)⟩
end
end Go.Proofs.YtifnkmddinoneaaGreatDoor
namespace Go.Proofs.YtifnkmddinoneaaGreatDoor
open Go.RowKit
set_option linter.unusedVariables false
section
variable {w w' : World} {A : Ag} {E : Es} {T : List Nat}
set_option maxHeartbeats 4000000 in
set_option maxRecDepth 100000 in
theorem at_some (h : Eg w A T E) (d i : Int) {l : List L10.Xi} (hn : E.code d = some l) : Calls Tryz.prog 115 #[Pt A.g, .agg #[.int .i64 d, .int .i64 i]] w fun e w' => (∃ x, E.at d i = some x ∧ OkX x ∧ e = .returned (.tuple #[insV x, .bool true]) ∧ Mod [] w w') ∨ (E.at d i = none ∧ e = .returned (.tuple #[.agg #[.int .u8 0, .int .i64 0, .int .i64 0], .bool false]) ∧ Mod [] w w') := by
  have m1 := L14.al_mod w (posB d i)
  have m2 := L14.al_mod (w.alloc (posB d i)) zin
  have h0 := h.far (m1.trans m2)
  have hz := L14.size_allocI w (posB d i)
  obtain ⟨B, R, b, N, c, eD, hk, hu, huN, hN, hNc, c0, hok, hl1, hl5, hget⟩ := h0.packs hn
  have hat : E.at d i = if 0 ≤ i then l[i.toNat]? else none := by unfold Es.at; rw [hn]; rfl
  have H1 := isdef_calls h0 d
  rw [hn] at H1
  have hkl : B.length < E.D.length := by rw [eD]; simp
  have hD := (Mod.refl [] ((w.alloc (posB d i)).alloc zin)).drew
  have HE0 := eend_calls (h0.far hD) B.length (by omega)
  have HE1 := eend_calls (h0.far hD) (B.length + 1) (by omega)
  have p0 : ((w.alloc (posB d i)).alloc zin).cell? ⟨w.heap.size, 0, none⟩ = some (.int .i64 d) := m2.cell (x := ⟨w.heap.size, 0, none⟩) (by simp) (L14.cell_eq (MapKept.heap_alloc w (posB d i)).1 0)
  have p1 : ((w.alloc (posB d i)).alloc zin).cell? ⟨w.heap.size, 1, none⟩ = some (.int .i64 i) := m2.cell (x := ⟨w.heap.size, 1, none⟩) (by simp) (L14.cell_eq (MapKept.heap_alloc w (posB d i)).1 1)
  have hb := zin_box (w.alloc (posB d i))
  rw [hz] at hb
  have HM := Lib.hid (And.intro (m1.trans m2) (And.intro hb (And.intro hat hok)))
  have hs := fun W => slice_packed b N c (upE E.D B.length) (upE E.D B.length + l.length) (by omega) (by omega) hNc W
  rw [← hu] at HE1 huN
  have en : upE E.D B.length + l.length - upE E.D B.length = l.length := by omega
  simp only [en] at hs
  have hlo : upE E.D B.length ≤ 150000 := by omega
  obtain ⟨k, ek⟩ : ∃ k, k = B.length := ⟨_, rfl⟩
  rw [← ek] at hk HE0 HE1 hs hget hlo huN
  have hk3 : k ≤ 300 := by have := h.ok.d; omega
  subst hk
  generalize upE E.D k = lo at *
  obtain ⟨n, eln⟩ : ∃ n, n = l.length := ⟨_, rfl⟩
  rw [← eln] at hs HE1 hl1 hl5
  obtain ⟨up, eup⟩ : ∃ up, up = lo + n := ⟨_, rfl⟩
  rw [← eln, ← eup] at huN
  rw [← eup] at hs HE1
  have hlu : lo ≤ up := by omega
  have hluI : (lo : Int) ≤ (up : Int) := by omega
  have huNI : (up : Int) ≤ (N : Int) := by omega
  have huc : (up : Int) ≤ (c : Int) := by omega
  have HL := Lib.hid (And.intro hget (And.intro eln (And.intro hb eup)))
  generalize E.at ((k : Int) + 1) i = Z at *
  have HE0 := Lib.hid HE0
  have HE1 : RowKit.Hid (Calls Tryz.prog 259 #[Pt A.g, .int .i64 ((k : Int) + 1)] ((w.alloc (posB ((k : Int) + 1) i)).alloc zin).drew fun e w' => e = .returned (.int .i64 (up : Int)) ∧ ((w.alloc (posB ((k : Int) + 1) i)).alloc zin).drew = w') := Lib.hid HE1
  have H1 := Lib.hid H1
  clear h h0 hn hat hok hkl eD hu en eln eup hget m1 m2 ek hb
  go_enter Tryz.func115, Tryz.ntmps115
  go_wp2_with fail
  refine (H1.out).mono ?_
  rintro e w1 ⟨rfl, rfl⟩
  go_wp2_with fail
  generalize ((w.alloc (posB ((k : Int) + 1) i)).alloc zin) = X at *
  have hs1 := hs X.drew
  have hwr : IntKind.i64.wrap (k : Int) = (k : Int) := by rw [IntKind.wrap_i64]; omega
  go_region_held3 (fun W => W.cell? ⟨A.g, 0, none⟩ = some (.slice (some ⟨b, 0, none⟩) N c) ∧ W.cell? ⟨w.heap.size, 0, none⟩ = some (.int .i64 ((k : Int) + 1))) (first | with_reducible exact ⟨hD.cell (x := ⟨A.g, 0, none⟩) (by simp) c0, hD.cell (x := ⟨w.heap.size, 0, none⟩) (by simp) p0⟩ | fail)
    (first | ((with_reducible refine (HE0.out).mono ?_); rintro e w2 ⟨rfl, rfl⟩) | ((with_reducible refine (HE1.out).mono ?_); rintro e w2 ⟨rfl, rfl⟩) | fail)
  have p1d := hD.cell (x := ⟨w.heap.size, 1, none⟩) (by simp) p1
  have hb3 := (hD.block _ (Array.getElem?_eq_some_iff.1 HM.out.2.1).1 (by simp)).trans HM.out.2.1
  obtain ⟨q0, q1, q2, r0, r1, r2⟩ : X.drew.cell? ⟨w.heap.size + 1, 0, none⟩ = some (.int .u8 0) ∧ X.drew.cell? ⟨w.heap.size + 1, 1, none⟩ = some (.int .i64 0) ∧ X.drew.cell? ⟨w.heap.size + 1, 2, none⟩ = some (.int .i64 0) ∧ X.drew.frozen? ⟨w.heap.size + 1, 0, none⟩ = false ∧ X.drew.frozen? ⟨w.heap.size + 1, 1, none⟩ = false ∧ X.drew.frozen? ⟨w.heap.size + 1, 2, none⟩ = false := three_at hb3
  clear hs1 hwr HE0 HE1 hs p0 c0 p1 hb3 hluI huNI huc
  generalize X.drew = Y at *
  by_cases h1 : i < 0
  · have h1b : decide (i < 0) = true := decide_eq_true h1
    have H0 := Lib.hid h1
    clear h1
    have hZ : Z = none := by
      rw [HM.out.2.2.1]
      rw [if_neg (by have := H0.out; omega)]
    clear H0
    go_wp2_with fail
    have hb3 := (hD.block _ (Array.getElem?_eq_some_iff.1 HM.out.2.1).1 (by simp)).trans HM.out.2.1
    obtain ⟨k1, k2⟩ := three_set hb3 (.int .u8 0) (.int .i64 0) (.int .i64 0)
    refine bodyPost_ret (res_in2 Tryz.results115 rfl k1) rfl ?_
    exact Or.inr ⟨hZ, rfl, (HM.out.1.trans hD).far1 k2 (by omega)⟩
  · have h1b : decide (i < 0) = false := decide_eq_false h1
    by_cases h2 : (n : Int) ≤ i
    · have h2b : decide ((n : Int) ≤ i) = true := decide_eq_true h2
      have H0 := Lib.hid (And.intro h1 h2)
      clear h1
      have hZ : Z = none := by
        rw [HM.out.2.2.1]
        rw [if_pos (by have := H0.out.1; omega)]
        exact List.getElem?_eq_none (by have := H0.out.2; have := HL.out.2.1; omega)
      clear H0
      go_wp2_with fail
      have hb3 := (hD.block _ (Array.getElem?_eq_some_iff.1 HM.out.2.1).1 (by simp)).trans HM.out.2.1
      obtain ⟨k1, k2⟩ := three_set hb3 (.int .u8 0) (.int .i64 0) (.int .i64 0)
      refine bodyPost_ret (res_in2 Tryz.results115 rfl k1) rfl ?_
      exact Or.inr ⟨hZ, rfl, (HM.out.1.trans hD).far1 k2 (by omega)⟩
    · obtain ⟨j, rfl⟩ : ∃ j : Nat, i = (j : Int) := ⟨i.toNat, by omega⟩
      have hjn : (j : Int) < (n : Int) := by omega
      have h2b : decide ((n : Int) ≤ (j : Int)) = false := decide_eq_false h2
      have hjl : j < l.length := by have := HL.out.2.1; omega
      have hx := List.getElem?_eq_getElem hjl
      generalize l[j] = x at *
      have hZ : Z = some x := by rw [HM.out.2.2.1, if_pos (by omega), Int.toNat_natCast]; exact hx
      have hox := HM.out.2.2.2 x (List.mem_of_getElem? hx)
      obtain ⟨g0, g1⟩ := HL.out.1 j x hx
      have g0 := hD.cell (x := ⟨b, (lo + j) * 2, none⟩) (by simp) g0
      have g1 := hD.cell (x := ⟨b, (lo + j) * 2 + 1, none⟩) (by simp) g1
      have ee : (lo + j) * 2 = lo * 2 + j * 2 := by omega
      rw [ee] at g0 g1
      have HI := Lib.hid (instr_calls x hox Y)
      have HZ := Lib.hid (And.intro hZ hox)
      obtain ⟨xo, xa, xw⟩ := x
      generalize packX ⟨xo, xa, xw⟩ = px at *
      unfold insV at HI
      dsimp only at HI g1
      clear h1 h2 hjl hx hZ hox ee
      go_wp2_with fail
      refine (HI.out).mono ?_
      rintro e w3 ⟨rfl, k3⟩
      have hb3 := (hD.block _ (Array.getElem?_eq_some_iff.1 HM.out.2.1).1 (by simp)).trans HM.out.2.1
      have hb4 := (k3.block _ (Array.getElem?_eq_some_iff.1 hb3).1 (by simp)).trans hb3
      clear q0 q1 q2 r0 r1 r2 hb3 g0 g1
      obtain ⟨q0, q1, q2, r0, r1, r2⟩ : w3.cell? ⟨w.heap.size + 1, 0, none⟩ = some (.int .u8 0) ∧ w3.cell? ⟨w.heap.size + 1, 1, none⟩ = some (.int .i64 0) ∧ w3.cell? ⟨w.heap.size + 1, 2, none⟩ = some (.int .i64 0) ∧ w3.frozen? ⟨w.heap.size + 1, 0, none⟩ = false ∧ w3.frozen? ⟨w.heap.size + 1, 1, none⟩ = false ∧ w3.frozen? ⟨w.heap.size + 1, 2, none⟩ = false := three_at hb4
      have HB := Lib.hid (And.intro hb4 k3)
      clear hb4 k3 HI p1d
      go_wp2_with fail
      obtain ⟨k1, k2⟩ := three_set HB.out.1 (.int .u8 (xo : Int)) (.int .i64 xa) (.int .i64 xw)
      refine bodyPost_ret (res_in2 Tryz.results115 rfl k1) rfl ?_
      exact Or.inl ⟨_, HZ.out.1, HZ.out.2, rfl, ((HM.out.1.trans hD).trans HB.out.2).far1 k2 (by omega)⟩
end
end Go.Proofs.YtifnkmddinoneaaGreatDoor
namespace Go.Proofs.YtifnkmddinoneaaGreatDoor
open Go.RowKit
set_option linter.unusedVariables false
section
variable {w w' : World} {A : Ag} {E : Es} {T : List Nat}
theorem i64_small {n : Int} (h : 0 ≤ n) (h2 : n ≤ 1000) : I64 n := by unfold I64; omega
set_option maxHeartbeats 2000000 in
theorem insf_calls (x : L10.Xi) (hx : OkX x) (hne : x.op ≠ 2) (F : FuncId) (hF : insF x.op = some F) (h : Eg w A T E) : Calls Tryz.prog F #[Pt A.g, insV x] w (Plays A T w (stV (after (insE x E)).1) (after (insE x E)).2) := by
  obtain ⟨xo, xa, xw⟩ := x
  obtain ⟨h1, h2, h3, h4, h5⟩ := hx
  dsimp only at hne hF h1 h2 h3 h4 h5
  have ha := i64_small h3 h4
  have h0 : xo = 1 ∨ xo = 3 ∨ xo = 4 ∨ xo = 5 ∨ xo = 6 ∨ xo = 7 ∨ xo = 8 ∨ xo = 9 ∨ xo = 10 ∨ xo = 11 ∨ xo = 12 ∨ xo = 13 ∨ xo = 14 ∨ xo = 15 := by omega
  rcases h0 with rfl | rfl | rfl | rfl | rfl | rfl | rfl | rfl | rfl | rfl | rfl | rfl | rfl | rfl
  all_goals
    injection hF with hF
    subst hF
  · rw [show insE ⟨1, xa, xw⟩ E = pushE xw E by unfold insE; simp]
    exact literal_calls h ⟨1, xa, xw⟩ h5
  · rw [show insE ⟨3, xa, xw⟩ E = (0, { E with i := xa }) by unfold insE; simp]
    exact jump_calls h ⟨3, xa, xw⟩ ha
  · rw [show insE ⟨4, xa, xw⟩ E = takingE 1 (fun l E => (0, if l.headD 0 = 0 then { E with i := xa } else E)) E by unfold insE; simp]
    exact zero_calls h ⟨4, xa, xw⟩ ha
  · rw [show insE ⟨5, xa, xw⟩ E = takingE 2 (fun l E => frameE ⟨3, 0, 0, l.getD 1 0, l.headD 0, []⟩ E) E by unfold insE; simp]
    exact beginloop_calls h ⟨5, xa, xw⟩
  · rw [show insE ⟨6, xa, xw⟩ E = takingE 2 (fun l E => if l.headD 0 = l.getD 1 0 then (0, { E with i := xa }) else frameE ⟨3, 0, 0, l.getD 1 0, l.headD 0, []⟩ E) E by unfold insE; simp]
    exact qdo_calls h ⟨6, xa, xw⟩ ha
  · rw [show insE ⟨7, xa, xw⟩ E = stepF 1 xa E by unfold insE; simp]
    exact advance1_calls h ⟨7, xa, xw⟩ ha
  · rw [show insE ⟨8, xa, xw⟩ E = takingE 1 (fun l E => stepF (l.headD 0) xa E) E by unfold insE; simp]
    exact plus_calls h ⟨8, xa, xw⟩ ha
  · rw [show insE ⟨9, xa, xw⟩ E = if (unloopE E).1 = 0 then (0, { (unloopE E).2 with i := xa }) else unloopE E by unfold insE; simp]
    exact leave_calls h ⟨9, xa, xw⟩ ha
  · rw [show insE ⟨10, xa, xw⟩ E = takingE 2 (fun l E => if l.headD 0 = l.getD 1 0 then (0, E) else pushE (l.headD 0) { E with i := xa }) E by unfold insE; simp]
    exact of_calls15 h ⟨10, xa, xw⟩ ha
  · rw [show insE ⟨11, xa, xw⟩ E = takingE 1 (fun _ E => (0, E)) E by unfold insE; simp]
    exact drop_calls h ⟨11, xa, xw⟩
  · rw [show insE ⟨12, xa, xw⟩ E = takingE xa.toNat (fun l E => frameE ⟨4, 0, 0, 0, 0, l⟩ E) E by unfold insE; simp]
    exact locals_calls h ⟨12, xa, xw⟩ xa.toNat (by dsimp only; omega) (by omega)
  · exact local_calls h ⟨13, xa, xw⟩
  · rw [show insE ⟨14, xa, xw⟩ E = takingE 1 (fun l E => if (L14.localL xa E.F).isSome then (0, { E with F := L14.setL xa (l.headD 0) E.F }) else (-6, E)) E by unfold insE; simp]
    exact to_calls15 h ⟨14, xa, xw⟩ ha
  · rw [show insE ⟨15, xa, xw⟩ E = (0, { E with F := L14.popL 4 E.F, d := 0, i := 0 }) by unfold insE; simp]
    exact exit_calls h ⟨15, xa, xw⟩
set_option maxHeartbeats 2000000 in
theorem execword_calls (h : Eg w A T E) (x : L10.Xi) (Q : Int → List Int → Mu → Prop) (hQ : ∀ m, primW x.a E = some m → DoQ A E.C E.μ m Q) : Calls Tryz.prog 92 #[Pt A.g, insV x] w (StepsTo A T w (fun r => execE r x.a E) (primW x.a E) Q) := by
  obtain ⟨xo, xa, xw⟩ := x
  unfold insV
  dsimp only at hQ ⊢
  have hb := h.far (L14.al_mod w (.cells #[.int .u8 (xo : Int), .int .i64 xa, .int .i64 xw] 61))
  have hz := L14.size_allocI w (.cells #[.int .u8 (xo : Int), .int .i64 xa, .int .i64 xw] 61)
  have h0 := hb.far (L14.al_mod _ zst)
  have H1 := Lib.hid (execute_calls h0 xa Q hQ)
  have HH := Lib.hid hb
  clear h h0 hb hQ
  go_enter Tryz.func92, Tryz.ntmps92
  go_wp2_with fail
  refine (H1.out).mono ?_
  rintro e w2 ⟨r, hr, he, T2, h2, t2⟩
  obtain ⟨S, hS⟩ : ∃ S, S = execE r xa E := ⟨_, rfl⟩
  dsimp only at he h2
  rw [← hS] at he h2
  obtain ⟨⟨s0, s1, s2⟩, E'⟩ := S
  unfold stV at he
  dsimp only at he h2
  subst he
  obtain ⟨b1, b2⟩ := box_beside HH.out t2 h2
  rw [hz] at b1 b2
  obtain ⟨c0, c1, c2, g0, g1, g2⟩ := three_at b1
  have HB := Lib.hid (And.intro b1 (And.intro b2 (And.intro hr hS)))
  clear b1 b2 h2 t2 hr hS H1
  go_wp2_with fail
  obtain ⟨b1, b2, hr, hS⟩ := HB.out
  obtain ⟨k1, k2⟩ := three_set b1 (.int .i64 s0) (.int .i64 s1) (.int .i64 s2)
  obtain ⟨h5, t5⟩ := b2 _ k2
  refine bodyPost_ret (res_st Tryz.results92 rfl k1) rfl ⟨r, hr, ?_⟩
  dsimp only
  rw [← hS]
  exact ⟨rfl, _, h5, (Tn.far (L14.al_mod w _)).trans t5⟩
theorem insf_all (x : L10.Xi) (hx : OkX x) (F : FuncId) (hF : insF x.op = some F) (h : Eg w A T E) (Q : Int → List Int → Mu → Prop) (hQ : x.op = 2 → ∀ m, primW x.a E = some m → DoQ A E.C E.μ m Q) : Calls Tryz.prog F #[Pt A.g, insV x] w (StepsTo A T w (fun r => instructE r x E) (if x.op = 2 then primW x.a E else none) Q) := by
  by_cases h2 : x.op = 2
  · rw [h2] at hF
    injection hF with hF
    subst hF
    refine (execword_calls h x Q (hQ h2)).mono fun e w' ⟨r, hr, hp⟩ => ⟨r, fun hn => hr (by rwa [if_pos h2] at hn), ?_⟩
    dsimp only at hp ⊢
    unfold instructE
    rw [if_pos h2]; exact hp
  · refine (insf_calls x hx h2 F hF h).mono fun e w' hp => ⟨(0, [], E.μ), fun hn => absurd (if_neg h2) hn, ?_⟩
    dsimp only
    unfold instructE
    rw [if_neg h2]; exact hp
set_option maxRecDepth 100000 in
theorem insf_some (n : Nat) (hn : 1 ≤ n ∧ n ≤ 15) : ∃ F, insF n = some F ∧ Enters F := by
  have h0 : n = 1 ∨ n = 2 ∨ n = 3 ∨ n = 4 ∨ n = 5 ∨ n = 6 ∨ n = 7 ∨ n = 8 ∨ n = 9 ∨ n = 10 ∨ n = 11 ∨ n = 12 ∨ n = 13 ∨ n = 14 ∨ n = 15 := by omega
  rcases h0 with rfl | rfl | rfl | rfl | rfl | rfl | rfl | rfl | rfl | rfl | rfl | rfl | rfl | rfl | rfl
  all_goals exact ⟨_, rfl, fun xs W => by kernel_rfl⟩
end
end Go.Proofs.YtifnkmddinoneaaGreatDoor
namespace Go.Proofs.YtifnkmddinoneaaGreatDoor
open Go.RowKit
set_option linter.unusedVariables false
section
variable {w w' : World} {A : Ag} {E : Es} {T : List Nat}
def AtGot (w : World) (o : Nat) (a x : Int) (ok : Bool) (u v : Value) (wx : World) : Prop := ∃ b, u = Pt b ∧ v = .bool ok ∧ wx.heap[b]? = some (.cells #[.int .u8 (o : Int), .int .i64 a, .int .i64 x] TI15 (0, 0)) ∧ Mod [] (w.alloc zst) wx ∧ (w.alloc zst).heap.size ≤ b
theorem got_box (w : World) {y1 : World} (k1 : Mod [] ((w.alloc zst).alloc zin).drew y1) : y1.heap[w.heap.size + 1]? = some zin := by
  have hz := L14.size_allocI w zst
  have q := (k1.block (w.alloc zst).heap.size (show (w.alloc zst).heap.size < ((w.alloc zst).alloc zin).heap.size by have := L14.size_allocI (w.alloc zst) zin; omega) (by simp)).trans (zin_box (w.alloc zst))
  rw [hz] at q
  exact q
set_option maxHeartbeats 4000000 in
set_option maxRecDepth 100000 in
theorem instruct_no (h : Eg w A T E) (hn : E.ins = none) : Calls Tryz.prog 56 #[Pt A.g] w (Plays A T w (stV (throwE (-25) E).1) (throwE (-25) E).2) := by
  have h0 := h.far (L14.al_mod w zst)
  have c6 := h.cs.c6
  have c7 := h.cs.c7
  have lg : A.g < w.heap.size := World.block_lt_of_cell? _ _ h.cs.c6
  have H1 : ∀ W, Mod [] (w.alloc zst) W → Calls Tryz.prog 115 #[Pt A.g, .agg #[.int .i64 E.d, .int .i64 E.i]] W fun e w' => True ∧ e = .returned (.tuple #[.agg #[.int .u8 0, .int .i64 0, .int .i64 0], .bool false]) ∧ Mod [] W w' := fun W m => by
    cases hc : E.code E.d with
    | none => exact (at_none (h0.far m) E.d E.i hc).mono fun e w' h => ⟨trivial, h⟩
    | some l =>
      refine (at_some (h0.far m) E.d E.i hc).mono ?_
      rintro e w' (⟨x, hx, _⟩ | ⟨_, h2⟩)
      · exact absurd (hx.symm.trans (show E.at E.d E.i = none from hn)) (by simp)
      · exact ⟨trivial, h2⟩
  have H2 := fun W (m : Mod [] (w.alloc zst) W) => throw_calls (h0.far m) (-25) (i64_of_small (by omega))
  generalize throwE (-25) E = S at H2 ⊢
  obtain ⟨⟨s0, s1, s2⟩, E'⟩ := S
  have H1 := Lib.hid H1
  have H2 := Lib.hid H2
  have HH := Lib.hid h
  clear h h0 hn
  go_enter Tryz.func56, Tryz.ntmps56
  go_wp2_with fail
  go_cut [3, 4] (fun u v wx => AtGot w 0 0 0 false u v wx)
  case first =>
    go_region_with (first | (go_at_call 115; refine (H1.out _ (by first | exact (Mod.refl [] _).drew | exact (L14.al_mod _ _).drew)).mono ?_; rintro e y1 ⟨hok, rfl, k1⟩; first | (have q := got_box w k1; obtain ⟨q0, q1, q2, q3, q4, q5⟩ := three_at q) | skip))
    all_goals
      go_wp2_with fail
      go_meet
      first
      | exact ⟨_, rfl, rfl, (MapKept.heap_alloc y1 _).1, ((Mod.refl [] (w.alloc zst)).drew.trans k1).trans (L14.al_mod y1 _), k1.size⟩
      | exact ⟨_, rfl, rfl, (three_set q _ _ _).1, (((L14.al_mod (w.alloc zst) _).drew).trans k1).far1 (three_set q _ _ _).2 (Nat.le_of_eq (L14.size_allocI w zst)), Nat.le_of_eq (L14.size_allocI w zst)⟩
  case rest =>
    obtain ⟨b, rfl, rfl, hb, k1, hle⟩ := hcut
    have HK := Lib.hid k1
    clear H1 c6 c7 lg hb k1 hle
    go_wp2_with fail
    refine (H2.out _ HK.out).mono ?_
    rintro e w2 ⟨rfl, T2, h2, t2⟩
    obtain ⟨b1, b2⟩ := box_beside HH.out ((Tn.far HK.out).trans t2) h2
    obtain ⟨c0, c1, c2, g0, g1, g2⟩ := three_at b1
    have HB := Lib.hid (And.intro b1 b2)
    clear b1 b2 h2 t2 H2
    unfold stV
    dsimp only
    go_wp2_with fail
    obtain ⟨b1, b2⟩ := HB.out
    obtain ⟨k1, k2⟩ := three_set b1 (.int .i64 s0) (.int .i64 s1) (.int .i64 s2)
    obtain ⟨h5, t5⟩ := b2 _ k2
    exact bodyPost_ret (res_st Tryz.results56 rfl k1) rfl ⟨rfl, _, h5, t5⟩
set_option maxHeartbeats 4000000 in
set_option maxRecDepth 100000 in
theorem instruct_yes (h : Eg w A T E) {x : L10.Xi} (hn : E.ins = some x) (Q : Int → List Int → Mu → Prop) (hQ : x.op = 2 → ∀ m, primW x.a E = some m → DoQ A E.C E.μ m Q) : Calls Tryz.prog 56 #[Pt A.g] w (StepsTo A T w (fun r => instructE r x { E with i := E.i + 1 }) (if x.op = 2 then primW x.a E else none) Q) := by
  have h0 := h.far (L14.al_mod w zst)
  have c6 := h.cs.c6
  have c7 := h.cs.c7
  have lg : A.g < w.heap.size := World.block_lt_of_cell? _ _ h.cs.c6
  obtain ⟨l, hc, hi, hl⟩ : ∃ l, E.code E.d = some l ∧ 0 ≤ E.i ∧ E.i < 500 := by
    unfold Es.ins at hn
    obtain ⟨l, hl, hl2⟩ := Option.bind_eq_some_iff.1 hn
    refine ⟨l, hl, ?_⟩
    split at hl2
    · rename_i h0
      have h1 := (List.getElem?_eq_some_iff.1 hl2).1
      obtain ⟨B, R, eD, _⟩ := Es.code_at hl
      have := (h.ok.x l (by rw [eD]; simp)).2.2
      omega
    · cases hl2
  have hox : OkX x := by
    unfold Es.ins at hn
    rw [hc] at hn
    obtain ⟨B, R, eD, _⟩ := Es.code_at hc
    refine (h.ok.x l (by rw [eD]; simp)).1 x ?_
    simp only [Option.bind_some] at hn
    rw [if_pos hi] at hn
    exact List.mem_of_getElem? hn
  have H1 : ∀ W, Mod [] (w.alloc zst) W → Calls Tryz.prog 115 #[Pt A.g, .agg #[.int .i64 E.d, .int .i64 E.i]] W fun e w' => True ∧ e = .returned (.tuple #[insV x, .bool true]) ∧ Mod [] W w' := fun W m => by
    refine (at_some (h0.far m) E.d E.i hc).mono ?_
    rintro e w' (⟨y, hy, hok, he, hm⟩ | ⟨h1, _⟩)
    · have e1 : y = x := by
        have := hy.symm.trans (show E.at E.d E.i = some x from hn)
        injection this
      rw [← e1]; exact ⟨trivial, he, hm⟩
    · exact absurd (h1.symm.trans (show E.at E.d E.i = some x from hn)) (by simp)
  have hi2 : I64 (E.i + 1) := by unfold I64; omega
  have HH := Lib.hid (And.intro h (And.intro h0 (And.intro hi2 (And.intro hQ hox))))
  obtain ⟨xo, xa, xw⟩ := x
  unfold insV at H1
  dsimp only at H1
  have H1 := Lib.hid H1
  have HI := Lib.hid (And.intro hi hl)
  obtain ⟨F, hF, hen⟩ := insf_some xo ⟨hox.1, hox.2.1⟩
  have HF := Lib.hid (And.intro hF hen)
  obtain ⟨ed, hed⟩ : ∃ ed, ed = E.d := ⟨_, rfl⟩
  obtain ⟨ei, hei⟩ : ∃ ei, ei = E.i := ⟨_, rfl⟩
  rw [← hed] at c6 H1
  rw [← hei] at c7 H1
  have HEI := Lib.hid (And.intro hei hed)
  dsimp only
  obtain ⟨pr, hpr⟩ : ∃ pr, pr = (if xo = 2 then primW xa E else none) := ⟨_, rfl⟩
  rw [← hpr]
  have HPR := Lib.hid hpr
  clear h h0 hn hc hQ hi2 hei hed hi hl hox hF hen hpr
  go_enter Tryz.func56, Tryz.ntmps56
  go_wp2_with fail
  go_cut [3, 4] (fun u v wx => AtGot w xo xa xw true u v wx)
  case first =>
    go_region_with (first | (go_at_call 115; refine (H1.out _ (by first | exact (Mod.refl [] _).drew | exact (L14.al_mod _ _).drew)).mono ?_; rintro e y1 ⟨hok, rfl, k1⟩; first | (have q := got_box w k1; obtain ⟨q0, q1, q2, q3, q4, q5⟩ := three_at q) | skip))
    all_goals
      go_wp2_with fail
      go_meet
      first
      | exact ⟨_, rfl, rfl, (MapKept.heap_alloc y1 _).1, ((Mod.refl [] (w.alloc zst)).drew.trans k1).trans (L14.al_mod y1 _), k1.size⟩
      | exact ⟨_, rfl, rfl, (three_set q _ _ _).1, (((L14.al_mod (w.alloc zst) _).drew).trans k1).far1 (three_set q _ _ _).2 (Nat.le_of_eq (L14.size_allocI w zst)), Nat.le_of_eq (L14.size_allocI w zst)⟩
  case rest =>
    obtain ⟨b, rfl, rfl, hb, k1, hle⟩ := hcut
    have hX := HH.out.2.1.far k1
    have c7 := hX.cs.c7
    have f7 := hX.cs.f7
    have lg := World.block_lt_of_cell? _ _ c7
    rw [← HEI.out.1] at c7
    have hwi : IntKind.i64.wrap (ei + 1) = ei + 1 := by rw [IntKind.wrap_i64]; have := HI.out; have := HEI.out.1; omega
    have hwi2 : wrap64 (ei + 1) = ei + 1 := wrap_id (by have := HI.out; have := HEI.out.1; unfold I64; omega)
    have HK := Lib.hid (And.intro k1 (And.intro hb hle))
    clear H1 c6 hX k1 hb hle
    go_wp2_with fail
    obtain ⟨h, h0, hi2, hQ, hox⟩ := HH.out
    obtain ⟨hX, t7⟩ := (h0.far HK.out.1).set7 (ei + 1) (by rw [HEI.out.1]; exact hi2)
    have nb : b ∉ T := fun hx => by have h1 := h.tl _ hx; have h2 := HK.out.2.2; rw [L14.size_allocI] at h2; omega
    have lb := (Array.getElem?_eq_some_iff.1 HK.out.2.1).1
    have hbX := (t7.m.block b lb nb).trans HK.out.2.1
    have ne : b ≠ w.heap.size := by have h2 := HK.out.2.2; rw [L14.size_allocI] at h2; omega
    have ng : A.g ≠ w.heap.size := fun e => by have h1 := World.block_lt_of_cell? _ _ h.cs.c3; simp only at h1; omega
    have hne1 : b ∉ [w.heap.size] := by simpa using ne
    have hne2 : A.g ∉ [w.heap.size] := by simpa using ng
    generalize (wc.setCell ⟨A.g, 7, none⟩ (.int .i64 (ei + 1))) = X at *
    have hD := (Mod.refl [] X).drew
    obtain ⟨mp, _, _, c11⟩ := hX.maps
    obtain ⟨f, hf, hf2⟩ := mp.m3
    have hlook := MapU.at (P := Tryz.prog) Tryz.underlying89 Tryz.underlying5 (hf.far hD) (xo : Int) _ (hf2 xo F HF.out.1)
    unfold mval at hlook
    obtain ⟨x0, x1, x2, _⟩ := three_at hbX
    have he := HF.out.2 #[Pt A.g, .agg #[.int .u8 (xo : Int), .int .i64 xa, .int .i64 xw]] X.drew
    have H2x := insf_all ⟨xo, xa, xw⟩ hox F HF.out.1 (hX.far hD) Q hQ
    unfold insV at H2x
    dsimp only at H2x
    have tX := (Tn.far (T := T) HK.out.1).trans t7
    have HX := Lib.hid (And.intro h tX)
    have H2x := Lib.hid H2x
    clear h h0 hi2 hQ hox hX t7 hbX ne ng mp hf hf2 tX c7 f7 lg hwi hwi2
    go_region_held3 (fun W => W.cell? ⟨A.g, 11, none⟩ = some (.map (some A.M3)) ∧ W.cell? ⟨b, 0, none⟩ = some (.int .u8 (xo : Int)) ∧ W.cell? ⟨b, 1, none⟩ = some (.int .i64 xa) ∧ W.cell? ⟨b, 2, none⟩ = some (.int .i64 xw)) (first | with_reducible exact ⟨hD.cell (x := ⟨A.g, 11, none⟩) (by simp) c11, hD.cell (x := ⟨b, 0, none⟩) (by simp) x0, hD.cell (x := ⟨b, 1, none⟩) (by simp) x1, hD.cell (x := ⟨b, 2, none⟩) (by simp) x2⟩ | with_reducible exact ⟨e3, d0, d1, d2⟩ | with_reducible exact ⟨z3.cell (x := ⟨A.g, 11, none⟩) hne2 e3, z3.cell (x := ⟨b, 0, none⟩) hne1 d0, z3.cell (x := ⟨b, 1, none⟩) hne1 d1, z3.cell (x := ⟨b, 2, none⟩) hne1 d2⟩ | fail)
      (first | ((with_reducible refine (H2x.out).mono ?_); rintro e w3 ⟨r, hr, hre, T3, h3, t3⟩; obtain ⟨S, hS⟩ : ∃ S, S = instructE r ⟨xo, xa, xw⟩ { E with i := ei + 1 } := ⟨_, rfl⟩; dsimp only at hre h3; rw [← hS] at hre h3; obtain ⟨⟨s0, s1, s2⟩, E'⟩ := S; unfold stV at hre; dsimp only at hre h3; subst hre; have e3 := h3.maps.2.2.2; have d0 := t3.m.cell (x := ⟨b, 0, none⟩) nb (hD.cell (x := ⟨b, 0, none⟩) (by simp) x0); have d1 := t3.m.cell (x := ⟨b, 1, none⟩) nb (hD.cell (x := ⟨b, 1, none⟩) (by simp) x1); have d2 := t3.m.cell (x := ⟨b, 2, none⟩) nb (hD.cell (x := ⟨b, 2, none⟩) (by simp) x2); obtain ⟨b1, b2⟩ := box_beside HX.out.1 ((HX.out.2.trans (Tn.far hD)).trans t3) h3; obtain ⟨c0, c1, c2, g0, g1, g2⟩ := three_at b1; have z3 := (three_set b1 (.int .i64 s0) (.int .i64 s1) (.int .i64 s2)).2; have HS := Lib.hid hS; clear hS) | fail)
    have HB := Lib.hid (And.intro b1 (And.intro b2 hr))
    clear b1 b2 h3 t3 e3 d0 d1 d2 hD hne1 hne2 c0 c1 c2 g0 g1 g2 H2x x0 x1 x2 c11 nb lb hlook he z3 hr
    go_wp2_with fail
    obtain ⟨b1, b2, hr⟩ := HB.out
    obtain ⟨k1, k2⟩ := three_set b1 (.int .i64 s0) (.int .i64 s1) (.int .i64 s2)
    obtain ⟨h5, t5⟩ := b2 _ k2
    refine bodyPost_ret (res_st Tryz.results56 rfl k1) rfl ⟨r, fun hn => hr (by rw [HPR.out] at hn; exact hn), ?_⟩
    dsimp only
    rw [← HEI.out.1, ← HS.out]
    exact ⟨rfl, _, h5, t5⟩
end
end Go.Proofs.YtifnkmddinoneaaGreatDoor
namespace Go.Proofs.YtifnkmddinoneaaGreatDoor
open Go.RowKit
set_option linter.unusedVariables false
section
variable {w w' : World} {A : Ag} {E : Es} {T : List Nat}
abbrev frB (k a b x y : Int) (s : Value) : Obj := .cells #[.int .i64 k, .int .i64 a, .int .i64 b, .int .i64 x, .int .i64 y, s] L14.TF
set_option maxHeartbeats 4000000 in
set_option maxRecDepth 100000 in
theorem endframe_calls (h : Eg w A T E) {R : List L14.Fm} {q : L14.Fm} (hF : E.F = R ++ [q]) (sB : Option Addr) (sn sc : Nat) : Calls Tryz.prog 57 #[Pt A.g, L14.frV q (.slice sB sn sc)] w (Plays A T w (stV (endE q E).1) (endE q E).2) := by
  have hq := h.ok.f q (by rw [hF]; simp)
  have hpop : ∀ k, q.k = k → L14.popL k E.F = R := fun k hk => by unfold L14.popL; rw [hF, L14.topK_snoc, if_pos hk]; simp
  have hdl : E.F.dropLast = R := by rw [hF]; simp
  obtain ⟨qk, qa, qb, qx, qy, ql⟩ := q
  obtain ⟨ha, hb', _⟩ := hq
  dsimp only at ha hb' hpop
  have hb := h.far (L14.al_mod w (frB qk qa qb qx qy (.slice sB sn sc)))
  have hz := L14.size_allocI w (frB qk qa qb qx qy (.slice sB sn sc))
  have h0 := hb.far (L14.al_mod _ zst)
  have c5 := h0.cs.c5
  have BX := (MapKept.heap_alloc w (frB qk qa qb qx qy (.slice sB sn sc))).1
  have bx0 := ((L14.al_mod (w.alloc (frB qk qa qb qx qy (.slice sB sn sc))) zst).block w.heap.size (Array.getElem?_eq_some_iff.1 BX).1 (by simp)).trans BX
  have nb : w.heap.size ∉ T := fun hx => by have h1 := h.tl _ hx; omega
  unfold L14.frV endE
  dsimp only
  by_cases h1 : qk = 1
  · subst h1
    have hb0 : ((1 : Int) == 1) = true := rfl
    rw [if_pos rfl]
    have hp1 := hpop 1 rfl
    have H1 := h0.fpop 1
    rw [hp1] at H1
    rw [hdl]
    have H1 := Lib.hid H1
    have HH := Lib.hid (And.intro hb (And.intro ha hb'))
    have HN := Lib.hid (And.intro nb bx0)
    clear h hF hpop hdl ha hb' hb h0 BX bx0 nb hp1
    go_enter Tryz.func57, Tryz.ntmps57
    go_wp2_with fail
    refine (H1.out).mono ?_
    rintro e w1 ⟨sB', sn', sc', rfl, T1, h1, t1⟩
    obtain ⟨k1, n1, l1⟩ := t1.keeps HN.out.1 (Array.getElem?_eq_some_iff.1 HN.out.2).1
    have bx1 := k1.trans HN.out.2
    obtain ⟨d0, d1, d2, d3, d4, d5, _⟩ := L14.six_at bx1
    have H2 := Lib.hid (goto_calls h1 qa qb HH.out.2.1 HH.out.2.2)
    have HP := Lib.hid t1
    have HB1 := Lib.hid bx1
    clear h1 t1 k1 n1 l1 bx1 H1 c5
    go_wp2_with fail
    -- REST
    refine (H2.out).mono ?_
    rintro e w2 ⟨rfl, T2, h2, t2⟩
    have HQ := Lib.hid (And.intro h2 t2)
    clear h2 t2 H2
    go_wp2_with fail
    refine (ran_calls _).mono ?_
    rintro e w3 ⟨rfl, k3⟩
    obtain ⟨b1, b2⟩ := box_beside HH.out.1 ((HP.out.trans HQ.out.2).trans (Tn.far k3)) (HQ.out.1.far k3)
    rw [hz] at b1 b2
    obtain ⟨c0, c1, c2, g0, g1, g2⟩ := three_at b1
    have HB := Lib.hid (And.intro b1 b2)
    clear b1 b2
    unfold stV ranS
    dsimp only
    go_wp2_with fail
    obtain ⟨b1, b2⟩ := HB.out
    obtain ⟨k1, k2⟩ := three_set b1 (.int .i64 1) (.int .i64 0) (.int .i64 0)
    obtain ⟨h5, t5⟩ := b2 _ k2
    exact bodyPost_ret (res_st Tryz.results57 rfl k1) rfl ⟨rfl, _, h5, (Tn.far (L14.al_mod w _)).trans t5⟩
  · by_cases h5 : qk = 5
    · subst h5
      have hb5 : ((5 : Int) == 1) = false := rfl
      have hb6 : ((5 : Int) == 5) = true := rfl
      rw [if_neg h1, if_pos rfl]
      have H1 := epush_calls h0 0 i64_0
      have HE := push_i64 0 E
      have hp5 : L14.popL 5 (pushE 0 E).2.F = R := hpop 5 rfl
      rw [hdl]
      generalize pushE 0 E = P at *
      obtain ⟨p1, p2⟩ := P
      dsimp only at *
      by_cases hp : p1 = 0
      · subst hp
        have hb7 : ((0 : Int) == 0) = true := rfl
        rw [if_pos rfl]
        have HA := fun W T' (h' : Eg W A T' { p2 with F := R }) => after_calls h' 0 i64_0
        generalize after ((0 : Int), ({ p2 with F := R } : Es)) = S at HA ⊢
        obtain ⟨⟨s0, s1, s2⟩, E'⟩ := S
        have HA := Lib.hid HA
        have H1 := Lib.hid H1
        have HH := Lib.hid (And.intro hb hp5)
        clear h hF hpop hdl ha hb' hb h0 BX bx0 nb hp5 HE c5 h1
        go_enter Tryz.func57, Tryz.ntmps57
        go_wp2_with fail
        refine (H1.out).mono ?_
        rintro e w1 ⟨rfl, T1, h1, t1⟩
        have c5 := h1.cs.c5
        have H2 := h1.fpop 5
        rw [HH.out.2] at H2
        have H2 := Lib.hid H2
        have HP := Lib.hid t1
        clear h1 t1 H1
        go_wp2_with fail
        refine (H2.out).mono ?_
        rintro e w2 ⟨sB', sn', sc', rfl, T2, h2, t2⟩
        have HA2 := Lib.hid (HA.out w2 T2 h2)
        have HQ := Lib.hid t2
        clear h2 t2 H2 HA c5
        go_wp2_with fail
        refine (HA2.out).mono ?_
        rintro e w3 ⟨rfl, T3, h3, t3⟩
        obtain ⟨b1, b2⟩ := box_beside HH.out.1 ((HP.out.trans HQ.out).trans t3) h3
        rw [hz] at b1 b2
        obtain ⟨c0, c1, c2, g0, g1, g2⟩ := three_at b1
        have HB := Lib.hid (And.intro b1 b2)
        clear b1 b2
        unfold stV
        dsimp only
        go_wp2_with fail
        obtain ⟨b1, b2⟩ := HB.out
        obtain ⟨k1, k2⟩ := three_set b1 (.int .i64 s0) (.int .i64 s1) (.int .i64 s2)
        obtain ⟨h5, t5⟩ := b2 _ k2
        exact bodyPost_ret (res_st Tryz.results57 rfl k1) rfl ⟨rfl, _, h5, (Tn.far (L14.al_mod w _)).trans t5⟩
      · have hb7 : (p1 == 0) = false := by simpa using hp
        rw [if_neg hp]
        have HA := fun W T' (h' : Eg W A T' p2) => after_calls h' p1 HE
        generalize after (p1, p2) = S at HA ⊢
        obtain ⟨⟨s0, s1, s2⟩, E'⟩ := S
        have HA := Lib.hid HA
        have H1 := Lib.hid H1
        have HH := Lib.hid (And.intro hb hz)
        clear h hF hpop hdl ha hb' hb h0 BX bx0 nb hp5 HE c5 h1 hp
        go_enter Tryz.func57, Tryz.ntmps57
        go_wp2_with fail
        refine (H1.out).mono ?_
        rintro e w1 ⟨rfl, T1, h1, t1⟩
        have HA2 := Lib.hid (HA.out w1 T1 h1)
        have HP := Lib.hid t1
        clear h1 t1 H1 HA
        go_wp2_with fail
        refine (HA2.out).mono ?_
        rintro e w3 ⟨rfl, T3, h3, t3⟩
        obtain ⟨b1, b2⟩ := box_beside HH.out.1 (HP.out.trans t3) h3
        rw [hz] at b1 b2
        obtain ⟨c0, c1, c2, g0, g1, g2⟩ := three_at b1
        have HB := Lib.hid (And.intro b1 b2)
        clear b1 b2
        unfold stV
        dsimp only
        go_wp2_with fail
        obtain ⟨b1, b2⟩ := HB.out
        obtain ⟨k1, k2⟩ := three_set b1 (.int .i64 s0) (.int .i64 s1) (.int .i64 s2)
        obtain ⟨h5, t5⟩ := b2 _ k2
        exact bodyPost_ret (res_st Tryz.results57 rfl k1) rfl ⟨rfl, _, h5, (Tn.far (L14.al_mod w _)).trans t5⟩
    · have hb5 : (qk == 1) = false := by simpa using h1
      have hb6 : (qk == 5) = false := by simpa using h5
      rw [if_neg h1, if_neg h5]
      have H1 := throw_calls h0 (-25) (i64_of_small (by omega))
      generalize throwE (-25) E = S at H1 ⊢
      obtain ⟨⟨s0, s1, s2⟩, E'⟩ := S
      have H1 := Lib.hid H1
      have HH := Lib.hid (And.intro hb hz)
      clear h hF hpop hdl ha hb' hb h0 BX bx0 nb c5 h1 h5
      go_enter Tryz.func57, Tryz.ntmps57
      go_wp2_with fail
      refine (H1.out).mono ?_
      rintro e w3 ⟨rfl, T3, h3, t3⟩
      obtain ⟨b1, b2⟩ := box_beside HH.out.1 (t3) h3
      rw [hz] at b1 b2
      obtain ⟨c0, c1, c2, g0, g1, g2⟩ := three_at b1
      have HB := Lib.hid (And.intro b1 b2)
      clear b1 b2
      unfold stV
      dsimp only
      go_wp2_with fail
      obtain ⟨b1, b2⟩ := HB.out
      obtain ⟨k1, k2⟩ := three_set b1 (.int .i64 s0) (.int .i64 s1) (.int .i64 s2)
      obtain ⟨h5, t5⟩ := b2 _ k2
      exact bodyPost_ret (res_st Tryz.results57 rfl k1) rfl ⟨rfl, _, h5, (Tn.far (L14.al_mod w _)).trans t5⟩
end
end Go.Proofs.YtifnkmddinoneaaGreatDoor
