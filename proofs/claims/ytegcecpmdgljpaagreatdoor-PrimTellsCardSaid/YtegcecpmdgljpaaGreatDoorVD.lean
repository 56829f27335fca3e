/- Layer 13: two states, apart; what is done does not hang on what is below. Condition: the states are such. -/
import Derived.Test.YtegcecpmdgljpaaGreatDoorVC
namespace Go.Proofs.YtegcecpmdgljpaaGreatDoor
open Go.RowKit
set_option linter.unusedVariables false

/-- The call has turned the state so. -/
def SDid (a : Ad) (T : List Nat) (w : World) (v : Value) (C : List Int) (μ : Mu) (e : Ending) (w' : World) : Prop := e = .returned v ∧ ∃ T', Tn T T' w w' ∧ Stt w' a T' C μ
section
variable {w : World} {a : Ad} {T : List Nat} {C : List Int} {μ : Mu}
theorem Stt.put (h : Stt w a T C μ) {A : Option Addr} {n : Nat} (cap : Nat) {X : List Int} (hs : Sl w A X) (hn : n = X.length) (hI : ∀ x ∈ X, I64 x) (hm : n ≤ 9223372036854775807) :
    Calls Tryz.prog 13 #[Pt a.p, .slice A n cap] w (SDid a T w (.int .i64 (putL X C).1) (putL X C).2 μ) :=
  (put_calls h.st cap hs hn hI hm).mono fun e w' ⟨e1, s, k⟩ => ⟨e1, T, .of_mod k (by simp; exact h.ts.2.1), h.stack k s⟩
theorem do_uni {R X : List Int} {n : Int} {P : List Int} {er : Int} {μ' : Mu} (h : Stt w a T (R ++ X) μ) (hn : 1 ≤ n ∧ n ≤ 107) (hk : arity n = X.length) (U : Uni n X.length X μ P er μ') (hI : ∀ x ∈ P, I64 x) (hP : P.length ≤ 1000000) :
    Calls Tryz.prog 14 #[Pt a.s, .int .i64 n] w (SDid a T w (.int .i64 (doR X ⟨P, er, R, μ'⟩).1) (doR X ⟨P, er, R, μ'⟩).2.1 (doR X ⟨P, er, R, μ'⟩).2.2) := by
  obtain ⟨S, hS⟩ := shp_known a.s n hn
  have ha := shp_arity a.s n S hS
  have e : (R ++ X).length - X.length = R.length := by simp
  have hl := h.st.n
  have hd := do_known h n hn S hS X.length (by rw [ha, hk]) (by simp) ⟨P, er, R, μ'⟩ (by rw [e, List.take_left, List.drop_left]; exact U a R) hI hP (by simpa using hl)
  rw [e, List.drop_left] at hd
  exact hd
theorem do_stk (h : Stt w a T C μ) (n : Int) (hn : 28 ≤ n ∧ n ≤ 42) : Calls Tryz.prog 14 #[Pt a.s, .int .i64 n] w (SDid a T w (.int .i64 (doL n C).1) (doL n C).2 μ) := by
  have hn' : 1 ≤ n ∧ n ≤ 107 := by omega
  obtain ⟨S, hS⟩ := shp_known a.s n hn'
  have hk := shp_arity a.s n S hS
  have hl := h.st.n
  have e : arity n = 0 := by unfold arity; rw [if_neg (by omega), if_neg (by omega), if_pos hn]
  rw [e] at hk
  have hle := doL_128 n C hl
  have hd := do_known h n hn' S hS 0 hk (Nat.zero_le _) ⟨[], (doL n C).1, (doL n C).2, μ⟩ (by rw [Nat.sub_zero, List.take_length, List.drop_length]; exact act_stk a n C μ hn) (by simp) (by simp) (by simpa using hle)
  have e2 : doR (C.drop (C.length - 0)) ⟨[], (doL n C).1, (doL n C).2, μ⟩ = ((doL n C).1, (doL n C).2, μ) := by
    rw [Nat.sub_zero, List.drop_length]
    unfold doR
    simp only [List.append_nil, List.length_nil, Nat.add_zero]
    split
    · rename_i h0; rw [if_neg (by omega), h0]
    · rfl
  rw [e2] at hd
  exact hd
end
/-- Two states, apart, new since w0. -/
def Lv2 (w0 w : World) (a : Ad) (C : List Int) (μ : Mu) (b : Ad) (D : List Int) (ν : Mu) : Prop := ∃ T U, Stt w a T C μ ∧ Stt w b U D ν ∧ Mod [] w0 w ∧ (∀ x ∈ T, w0.heap.size ≤ x) ∧ (∀ x ∈ U, w0.heap.size ≤ x) ∧ (∀ x ∈ T, x ∉ U) ∧ (∀ x ∈ T, x < b.lo ∨ b.hi ≤ x) ∧ (∀ x ∈ U, x < a.lo ∨ a.hi ≤ x)
section
variable {w0 w w' : World} {a b : Ad} {C D : List Int} {μ ν : Mu}
theorem Lv2.swap (h : Lv2 w0 w a C μ b D ν) : Lv2 w0 w b D ν a C μ := by
  obtain ⟨T, U, h1, h2, m, hT, hU, hd, k1, k2⟩ := h
  exact ⟨U, T, h2, h1, m, hU, hT, fun x hx hy => hd x hy hx, k2, k1⟩
theorem Lv2.mod (h : Lv2 w0 w a C μ b D ν) : Mod [] w0 w := by obtain ⟨_, _, _, _, m, _⟩ := h; exact m
theorem Lv2.stepA {T T' U : List Nat} {C' : List Int} {μ' : Mu} (h : Stt w a T C μ) (h2 : Stt w b U D ν) (m : Mod [] w0 w) (hT : ∀ x ∈ T, w0.heap.size ≤ x) (hU : ∀ x ∈ U, w0.heap.size ≤ x) (hd : ∀ x ∈ T, x ∉ U) (k1 : ∀ x ∈ T, x < b.lo ∨ b.hi ≤ x) (k2 : ∀ x ∈ U, x < a.lo ∨ a.hi ≤ x)
    (tn : Tn T T' w w') (h' : Stt w' a T' C' μ') : Lv2 w0 w' a C' μ' b D ν := by
  refine ⟨T', U, h', h2.other tn.m hd k1 h.gt, m.then tn.m (fun x hx => Or.inr (hT x hx)), fun x hx => (tn.new x hx).elim (hT x) fun k => Nat.le_trans m.size k, hU, fun x hx hy => ?_, fun x hx => ?_, k2⟩
  · rcases tn.new x hx with e | e
    · exact hd x e hy
    · have := h2.tl x hy; omega
  · rcases tn.new x hx with e | e
    · exact k1 x e
    · exact Or.inr (Nat.le_trans h2.hi e)
theorem Lv2.doA (h : Lv2 w0 w a C μ b D ν) {f : FuncId} {args : Array Value} {v : Value} {C' : List Int} {μ' : Mu} (H : ∀ T, Stt w a T C μ → Calls Tryz.prog f args w (SDid a T w v C' μ')) :
    Calls Tryz.prog f args w fun e w' => e = .returned v ∧ Lv2 w0 w' a C' μ' b D ν := by
  obtain ⟨T, U, h1, h2, m, hT, hU, hd, k1, k2⟩ := h
  exact (H T h1).mono fun e w' ⟨e1, T', tn, h'⟩ => ⟨e1, .stepA h1 h2 m hT hU hd k1 k2 tn h'⟩
theorem Lv2.doB (h : Lv2 w0 w a C μ b D ν) {f : FuncId} {args : Array Value} {v : Value} {D' : List Int} {ν' : Mu} (H : ∀ T, Stt w b T D ν → Calls Tryz.prog f args w (SDid b T w v D' ν')) :
    Calls Tryz.prog f args w fun e w' => e = .returned v ∧ Lv2 w0 w' a C μ b D' ν' :=
  (h.swap.doA H).mono fun e w' ⟨e1, k⟩ => ⟨e1, k.swap⟩
theorem Lv2.anyA (h : Lv2 w0 w a C μ b D ν) (n : Int) : Calls Tryz.prog 14 #[Pt a.s, .int .i64 n] w fun e w' => ∃ er C' μ', e = .returned (.int .i64 er) ∧ Lv2 w0 w' a C' μ' b D ν := by
  obtain ⟨T, U, h1, h2, m, hT, hU, hd, k1, k2⟩ := h
  exact (do_any h1 n).mono fun e w' ⟨er, C', μ', T', e1, tn, h', _⟩ => ⟨er, C', μ', e1, .stepA h1 h2 m hT hU hd k1 k2 tn h'⟩
theorem Lv2.far (h : Lv2 w0 w a C μ b D ν) (k : Mod [] w w') : Lv2 w0 w' a C μ b D ν := by
  obtain ⟨T, U, h1, h2, m, hT, hU, hd, k1, k2⟩ := h
  exact .stepA h1 h2 m hT hU hd k1 k2 (Tn.far k) (h1.far k)
theorem Lv2.one (h : Lv2 w0 w a C μ b D ν) : Lv w0 w a [] C μ := by
  obtain ⟨T, U, h1, h2, m, hT, _⟩ := h
  exact ⟨T, h1, m, hT, by simp⟩
theorem lv2_new {w0 w : World} {a : Ad} (h : Lv w0 w a [] C μ) : Calls Tryz.prog 11 #[.int .i64 1024] w fun e w' => ∃ b, e = .returned (.tuple #[Pt b.s, .int .i64 0]) ∧ Lv2 w0 w' a C μ b [] (mu0 1024) := by
  obtain ⟨T, h1, m, hT, _⟩ := h
  refine (new_calls13 1024 w h1.good (by decide) (by decide) (by decide)).mono fun e w' ⟨b, e1, h2, k, hU, hlo⟩ => ⟨b, e1, T, tsOf b, h1.far k, h2, m.far k, hT, fun x hx => Nat.le_trans m.size (hU x hx), fun x hx hy => ?_, fun x hx => ?_, fun x hx => ?_⟩
  · have := hU x hy; have := h1.tl x hx; omega
  · have := h1.tl x hx; left; omega
  · have := hU x hx; right; exact Nat.le_trans h1.hi this
end
theorem doR_ok {X : List Int} {P R : List Int} {μ' : Mu} (h : R.length + P.length ≤ 128) : doR X ⟨P, 0, R, μ'⟩ = (0, R ++ P, μ') := by unfold doR; rw [if_pos rfl, if_neg (by show ¬ 128 < R.length + P.length; omega)]
theorem doR_err {X : List Int} {P R : List Int} {er : Int} {μ' : Mu} (h : er ≠ 0) : doR X ⟨P, er, R, μ'⟩ = (er, R ++ X, μ') := by unfold doR; rw [if_neg h]
/-- What is done to cells above does not hang on those below. -/
theorem below_do (op : Int) (h42 : op ≠ 42) (h99 : op ≠ 99) (X Y : List Int) (hx : X.length ≤ 50) (hy : Y.length ≤ 50) (μ : Mu) (hm : μ.ok) (hI : ∀ x ∈ Y, I64 x) : ∃ (er : Int) (Z : List Int) (μ' : Mu),
    (∀ w a T, Stt w a T Y μ → Calls Tryz.prog 14 #[Pt a.s, .int .i64 op] w (SDid a T w (.int .i64 er) Z μ')) ∧
    (er ≠ -4 → ∀ w a T, Stt w a T (X ++ Y) μ → Calls Tryz.prog 14 #[Pt a.s, .int .i64 op] w (SDid a T w (.int .i64 er) (X ++ Z) μ')) := by
  by_cases hn : 1 ≤ op ∧ op ≤ 107
  · by_cases hs : 28 ≤ op ∧ op ≤ 42
    · refine ⟨_, _, μ, fun w a T h => do_stk h op hs, fun h4 w a T h => ?_⟩
      have := do_stk h op hs
      rw [doL_below op h42 X Y (by omega) (by omega) h4] at this
      exact this
    · by_cases hu : arity op ≤ Y.length
      · have hC : Y = Y.take (Y.length - arity op) ++ Y.drop (Y.length - arity op) := (List.take_append_drop _ _).symm
        have hV : (Y.drop (Y.length - arity op)).length = arity op := by simp; omega
        have hVI : ∀ x ∈ Y.drop (Y.length - arity op), I64 x := fun x hx => hI x (List.mem_of_mem_drop hx)
        have hR : (Y.take (Y.length - arity op)).length ≤ 50 := by simp; omega
        generalize Y.take (Y.length - arity op) = R at hC hR
        generalize Y.drop (Y.length - arity op) = V at hC hV hVI
        subst hC
        obtain ⟨P, er, μ', U, he, h0, hp2, hpk, hPI⟩ := any_op (μ := μ) op hn hs h99 hm V hV hVI
        rw [← hV] at U
        by_cases e0 : er = 0
        · subst e0
          refine ⟨0, R ++ P, μ', fun w a T h => ?_, fun _ w a T h => ?_⟩
          · have := do_uni h hn hV.symm U hPI (by omega)
            rw [doR_ok (by omega)] at this
            exact this
          · rw [← List.append_assoc] at h
            have := do_uni h hn hV.symm U hPI (by omega)
            rw [doR_ok (by simp; omega), List.append_assoc] at this
            exact this
        · refine ⟨er, R ++ V, μ', fun w a T h => ?_, fun _ w a T h => ?_⟩
          · have := do_uni h hn hV.symm U hPI (by omega)
            rw [doR_err e0] at this
            exact this
          · rw [← List.append_assoc] at h
            have := do_uni h hn hV.symm U hPI (by omega)
            rw [doR_err e0, List.append_assoc] at this
            exact this
      · refine ⟨-4, Y, μ, fun w a T h => ?_, fun h => absurd rfl h⟩
        obtain ⟨S, hS⟩ := shp_known a.s op hn
        exact (do_under h op hn S hS (by rw [shp_arity a.s op S hS]; omega)).mono fun e w' ⟨e1, m⟩ => ⟨e1, T, Tn.far m, h.far m⟩
  · exact ⟨1, Y, μ, fun w a T h => (do_unknown h op hn).mono fun e w' ⟨e1, m⟩ => ⟨e1, T, Tn.far m, h.far m⟩, fun _ w a T h => (do_unknown h op hn).mono fun e w' ⟨e1, m⟩ => ⟨e1, T, Tn.far m, h.far m⟩⟩
end Go.Proofs.YtegcecpmdgljpaaGreatDoor
