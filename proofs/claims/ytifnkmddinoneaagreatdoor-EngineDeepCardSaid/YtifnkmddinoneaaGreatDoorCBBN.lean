/- Layer 15: what the state's Do does, as the engine needs it. Condition: the operation's numbers. Layer 15: an engine goes on as its plain run does. Condition: the block is an engine (Eg). -/
import Derived.Test.YtifnkmddinoneaaGreatDoorCBBF
import Derived.Test.YtifnkmddinoneaaGreatDoorCBBM
import Derived.Test.YtifnkmddinoneaaGreatDoorCBAQ
set_option maxRecDepth 100000
namespace Go.Proofs.YtifnkmddinoneaaGreatDoor
open Go.RowKit
set_option linter.unusedVariables false
theorem doq_uni {A : Ag} {n : Int} {k : Nat} {X P : List Int} {μ μ' : Mu} {e : Int} (U : Uni n k X μ P e μ') (hn : 1 ≤ n ∧ n ≤ 107) (hk : arity n = k) (hX : X.length = k) (hP : ∀ x ∈ P, I64 x) (hl : P.length ≤ 1000) (he : I64 e) (R : List Int) :
    DoQ A (R ++ X) μ n fun er C' μ'' => (er, C', μ'') = doR X ⟨P, e, R, μ'⟩ := by
  intro E W T hC hμ h
  have h128 := h.n
  rw [hC] at h128
  obtain ⟨v, Ts, Tf, Ti, h⟩ := h
  have hs := h.st
  rw [hC, hμ] at hs
  obtain ⟨S, hS⟩ := shp_known A.a.s n hn
  have ha := shp_arity A.a.s n S hS
  rw [hk] at ha
  have e1 : (R ++ X).length - k = R.length := by rw [List.length_append, hX]; omega
  have hd := do_known hs n hn S hS k ha (by rw [List.length_append, hX]; omega) ⟨P, e, R, μ'⟩ (by rw [e1, List.take_left, List.drop_left]; exact U A.a R) hP (by simp; omega) (by show R.length + k ≤ 128; rw [List.length_append, hX] at h128; exact h128)
  rw [e1, List.drop_left] at hd
  refine hd.mono ?_
  rintro er w' ⟨he', T', tn, h2⟩
  have hI : I64 (doR X ⟨P, e, R, μ'⟩).1 := by
    unfold doR
    dsimp only
    split
    · split
      · exact i64_of_small (by omega)
      · exact i64_0
    · exact he
  obtain ⟨a1, a2⟩ := h.state tn h2
  exact ⟨_, _, _, rfl, hI, he', _, ⟨_, _, _, _, a1⟩, a2⟩
theorem oneV_dec (x : Int) : oneV 5 x = wrap64 (x - 1) := by simp [oneV]
theorem doq_dec {A : Ag} {μ : Mu} (R : List Int) (x : Int) (hx : R.length + 1 ≤ 128) : DoQ A (R ++ [x]) μ 5 fun er C' μ' => er = 0 ∧ C' = R ++ [wrap64 (x - 1)] ∧ μ' = μ := by
  have h := doq_uni (A := A) (act_c1 5 x (by omega) μ) (by omega) rfl rfl (fun y hy => by rw [List.mem_singleton.1 hy, oneV_dec]; exact i64_wrap _) (by simp) i64_0 R
  intro E W T hC hμ hE
  refine (h E W T hC hμ hE).mono ?_
  rintro e w' ⟨er, C', μ', hd, hr⟩
  unfold doR at hd
  rw [if_pos rfl, if_neg (by simp; omega), oneV_dec] at hd
  injection hd with h1 hd
  injection hd with h2 h3
  exact ⟨er, C', μ', ⟨h1, h2, h3⟩, hr⟩
end Go.Proofs.YtifnkmddinoneaaGreatDoor
namespace Go.Proofs.YtifnkmddinoneaaGreatDoor
open Go.RowKit
set_option linter.unusedVariables false
section
variable {w w' : World} {A : Ag} {E E1 E2 : Es} {T : List Nat}
theorem doq_dup {A : Ag} {μ : Mu} (R : List Int) (x : Int) (hx : R.length + 2 ≤ 128) : DoQ A (R ++ [x]) μ 28 fun er C' μ' => er = 0 ∧ C' = R ++ [x, x] ∧ μ' = μ := by
  intro E W T hC hμ h
  obtain ⟨v, Ts, Tf, Ti, h⟩ := h
  have hs := h.st
  rw [hC, hμ] at hs
  obtain ⟨S, hS⟩ := shp_known A.a.s 28 (by omega)
  have hk := shp_arity A.a.s 28 S hS
  have ha : arity 28 = 0 := rfl
  rw [ha] at hk
  have hl : (R ++ [x]).length ≤ 128 := by simp; omega
  have e28 : doL 28 (R ++ [x]) = (0, R ++ [x, x]) := by
    have h1 : shapeL 28 (topZ (R ++ [x])) = (1, [0, 0]) := rfl
    unfold doL
    rw [if_neg (by decide), if_neg (by decide), if_neg (by decide), h1]
    unfold replL
    dsimp only
    rw [if_neg (by decide), if_neg (by simp), if_neg (by simp; omega)]
    simp
  have hact : Act13 A.a 28 ((0 : Nat) : Int) ((R ++ [x]).take ((R ++ [x]).length - 0)) ((R ++ [x]).drop ((R ++ [x]).length - 0)) μ ⟨[], (doL 28 (R ++ [x])).1, (doL 28 (R ++ [x])).2, μ⟩ := by
    rw [Nat.sub_zero, List.take_length, List.drop_length]; exact act_stk A.a 28 (R ++ [x]) μ (by omega)
  have hd := do_known hs 28 (by omega) S hS 0 hk (Nat.zero_le _) _ hact (by simp) (by simp) (by have := doL_128 28 (R ++ [x]) hl; simpa using this)
  rw [Nat.sub_zero, List.drop_length, e28] at hd
  refine hd.mono ?_
  rintro er w' ⟨he', T', tn, h2⟩
  have hdo : doR [] ⟨[], 0, R ++ [x, x], μ⟩ = (0, R ++ [x, x], μ) := by
    unfold doR
    rw [if_pos rfl, if_neg (by simp; omega)]
    simp
  rw [hdo] at he' h2
  obtain ⟨a1, a2⟩ := h.state tn h2
  exact ⟨_, _, _, ⟨rfl, rfl, rfl⟩, i64_0, he', _, ⟨_, _, _, _, a1⟩, a2⟩
theorem doq_two {A : Ag} {μ : Mu} {n : Int} (R : List Int) (x y v : Int) (hn : n = 11 ∨ n = 21) (hv : twoV n x y = v) (hi : I64 v) (hx : R.length + 2 ≤ 128) : DoQ A (R ++ [x, y]) μ n fun er C' μ' => er = 0 ∧ C' = R ++ [v] ∧ μ' = μ := by
  have ht : twoE n y = 0 := by unfold twoE; rw [if_neg (by omega), if_neg (by omega)]
  have ha : arity n = 2 := by rcases hn with rfl | rfl <;> rfl
  have h := doq_uni (A := A) (act_c2 n x y (by omega) μ) (by omega) ha rfl (fun z hz => by rw [List.mem_singleton.1 hz, hv]; exact hi) (by simp) (by rw [ht]; exact i64_0) R
  rw [ht, hv] at h
  intro E W T hC hμ hE
  refine (h E W T hC hμ hE).mono ?_
  rintro e w' ⟨er, C', μ', hd, hr⟩
  unfold doR at hd
  rw [if_pos rfl, if_neg (by simp; omega)] at hd
  injection hd with h1 hd
  injection hd with h2 h3
  exact ⟨er, C', μ', ⟨h1, h2, h3⟩, hr⟩
theorem doq_ops {A : Ag} {μ : Mu} {n : Int} {C C' : List Int} (h : OpS n C C') : DoQ A C μ n fun er C'' μ' => er = 0 ∧ C'' = C' ∧ μ' = μ := by
  cases h with
  | dec R x hl => exact doq_dec R x hl
  | add R x y hl => exact doq_two R x y _ (Or.inl rfl) (by simp [twoV]) (i64_wrap _) hl
  | eq R x y hl =>
    refine doq_two R x y _ (Or.inr rfl) ?_ (by split <;> (unfold I64; omega)) hl
    by_cases e : x = y
    · subst e; simp [twoV, truth]
    · simp [twoV, truth, e]
  | dup R x hl => exact doq_dup R x hl
theorem nxt_calls (h : Eg w A T E) {s : Sv} (k : Nxt E s E1) : Calls Tryz.prog 31 #[Pt A.g] w (Plays A T w (stV s) E1) := by
  obtain ⟨r0, h1, h2⟩ := k
  refine (estep_calls h (fun e C' μ' => (e, C', μ') = r0) fun m hm => ?_).mono ?_
  · obtain ⟨C', ho, hr⟩ := h1 m hm
    intro E3 W T3 hC hμ hE
    refine (doq_ops (A := A) ho E3 W T3 hC hμ hE).mono ?_
    rintro e w' ⟨er, C'', μ', ⟨e1, e2, e3⟩, hr2⟩
    exact ⟨er, C'', μ', by rw [e1, e2, e3, hr], hr2⟩
  · rintro e w' ⟨r, hr, hp⟩
    have e1 := h2 r hr
    dsimp only at hp
    rw [e1] at hp
    exact hp
theorem path_run (h : Eg w A T E) {k : Nat} (p : Pth k E E1) {s : Sv} (n : Nxt E1 s E2) (hs : s.1 ≠ 1) (most : Nat) (hk : k < most) (hm : most ≤ 100000) : Calls Tryz.prog 20 #[Pt A.g, .int .i64 (most : Int)] w (Plays A T w (stV s) E2) := by
  refine (run_gen h (fun j E => ∃ i, i + j = k ∧ Pth i E E1) (fun s' E' => s' = s ∧ E' = E2) most ?_ ⟨k, by omega, p⟩ hm).mono ?_
  · rintro j E3 W T3 hj ⟨i, hi, hp⟩ hE
    cases i with
    | zero =>
      have hp : E3 = E1 := hp
      subst hp
      exact (nxt_calls hE n).mono fun e w' hh => ⟨s, E2, hh, fun e1 => absurd e1 hs, fun _ => ⟨rfl, rfl⟩⟩
    | succ i =>
      obtain ⟨E4, n4, p4⟩ := hp
      exact (nxt_calls hE n4).mono fun e w' hh => ⟨ranS, E4, hh, fun _ => ⟨i, by omega, p4⟩, fun e1 => absurd rfl e1⟩
  · rintro e w' ⟨s', E', hp, ⟨rfl, rfl⟩ | ⟨_, i, hi, _⟩⟩
    · exact hp
    · omega
end
end Go.Proofs.YtifnkmddinoneaaGreatDoor
