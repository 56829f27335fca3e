/- Layer 13: a state that is new since a world: its calls; the document's examples. Condition: the listed variables of Go's library hold what they hold (Good). -/
import Derived.Test.YtegcecpmdgljpaaGreatDoorVA
import Derived.Test.YtegcecpmdgljpaaGreatDoorRowIn
namespace Go.Proofs.YtegcecpmdgljpaaGreatDoor
open Go.RowKit
set_option linter.unusedVariables false

/-- A state all of whose blocks are new since w0; the blocks of K are none of them, and are as they were. -/
def Lv (w0 w : World) (a : Ad) (K : List (Nat × Option Obj)) (C : List Int) (μ : Mu) : Prop := ∃ T, Stt w a T C μ ∧ Mod [] w0 w ∧ (∀ x ∈ T, w0.heap.size ≤ x) ∧ ∀ k ∈ K, k.1 ∉ T ∧ k.1 < w.heap.size ∧ w.heap[k.1]? = k.2
theorem Lv.step {w0 w w' : World} {a : Ad} {K : List (Nat × Option Obj)} {T T' : List Nat} {C' : List Int} {μ' : Mu} (m : Mod [] w0 w ∧ (∀ x ∈ T, w0.heap.size ≤ x) ∧ ∀ k ∈ K, k.1 ∉ T ∧ k.1 < w.heap.size ∧ w.heap[k.1]? = k.2) (tn : Tn T T' w w') (h : Stt w' a T' C' μ') : Lv w0 w' a K C' μ' :=
  ⟨T', h, m.1.then tn.m (fun x hx => Or.inr (m.2.1 x hx)), fun x hx => (tn.new x hx).elim (m.2.1 x) fun k => Nat.le_trans m.1.size k, fun k hk => by
    obtain ⟨k1, k2, k3⟩ := m.2.2 k hk
    exact ⟨fun hx => (tn.new _ hx).elim k1 fun h => by omega, Nat.lt_of_lt_of_le k2 tn.m.size, (tn.m.block _ k2 k1).trans k3⟩⟩
theorem lv_new (n : Nat) {w0 w : World} (m : Mod [] w0 w) (g : Good w) (h0 : 1024 ≤ n) (h1 : n ≤ 65536) (h8 : n % 8 = 0) : Calls Tryz.prog 11 #[.int .i64 (n : Int)] w fun e w' => ∃ a, e = .returned (.tuple #[Pt a.s, .int .i64 0]) ∧ Lv w0 w' a [] [] (mu0 n) ∧ Mod [] w w' :=
  (new_calls13 n w g h0 h1 h8).mono fun e w' ⟨a, e1, h, k, hT, _⟩ => ⟨a, e1, ⟨tsOf a, h, m.far k, fun x hx => Nat.le_trans m.size (hT x hx), by simp⟩, k⟩
theorem Ow.same {w w' : World} {b c : Nat} {X : List Int} (h : Ow w b X c) (e : w'.heap[b]? = w.heap[b]?) : Ow w' b X c := by
  obtain ⟨cur, h1, h2⟩ := h
  exact ⟨cur, e.trans h1, h2⟩
section
variable {w0 w w' : World} {a : Ad} {K : List (Nat × Option Obj)} {C : List Int} {μ : Mu}
theorem Lv.mod (h : Lv w0 w a K C μ) : Mod [] w0 w := by obtain ⟨T, _, m, _⟩ := h; exact m
theorem Lv.far (h : Lv w0 w a K C μ) (k : Mod [] w w') : Lv w0 w' a K C μ := by
  obtain ⟨T, h, m⟩ := h
  exact .step m (Tn.far k) (h.far k)
theorem Lv.good (h : Lv w0 w a K C μ) : Good w := by obtain ⟨T, h, _⟩ := h; exact h.good
theorem Lv.n (h : Lv w0 w a K C μ) : C.length ≤ 128 := by obtain ⟨T, h, _⟩ := h; exact h.st.n
theorem Lv.i64 (h : Lv w0 w a K C μ) : ∀ x ∈ C, I64 x := by obtain ⟨T, h, _⟩ := h; exact h.st.2
theorem Lv.muok (h : Lv w0 w a K C μ) : μ.ok := by obtain ⟨T, h, _⟩ := h; exact h.muok
theorem Lv.lO (h : Lv w0 w a K C μ) : μ.O.length ≤ 4000 := by obtain ⟨T, h, _⟩ := h; exact h.lO
theorem Lv.kept (h : Lv w0 w a K C μ) {b : Nat} {o : Option Obj} (hk : (b, o) ∈ K) : w.heap[b]? = o := by obtain ⟨T, _, _, _, k⟩ := h; exact (k _ hk).2.2
/-- A new block is held. -/
theorem Lv.hold (h : Lv w0 w a K C μ) (k : Mod [] w w') {b : Nat} (hb : w.heap.size ≤ b) (hl : b < w'.heap.size) : Lv w0 w' a ((b, w'.heap[b]?) :: K) C μ := by
  obtain ⟨T, h, m, hT, hK⟩ := h
  refine ⟨T, h.far k, m.far k, hT, fun x hx => ?_⟩
  rcases List.mem_cons.1 hx with rfl | hx
  · exact ⟨fun hx => by have := h.tl _ hx; omega, hl, rfl⟩
  · obtain ⟨k1, k2, k3⟩ := hK x hx
    exact ⟨k1, Nat.lt_of_lt_of_le k2 k.size, (k.block _ k2 (by simp)).trans k3⟩
theorem Lv.stack (h : Lv w0 w a K C μ) : Calls Tryz.prog 12 #[Pt a.s] w fun e w' => e = .returned (Pt a.p) ∧ w = w' := by
  obtain ⟨T, h, _⟩ := h; exact stack_of h
theorem Lv.out (h : Lv w0 w a K C μ) : Calls Tryz.prog 18 #[Pt a.s] w fun e w' => e = .returned (.string (str μ.O)) ∧ w = w' := by
  obtain ⟨T, h, _⟩ := h; exact out_of h
theorem Lv.here (h : Lv w0 w a K C μ) : Calls Tryz.prog 20 #[Pt a.m] w fun e w' => e = .returned (.int .i64 μ.h) ∧ w = w' := by
  obtain ⟨T, h, _⟩ := h; exact here_calls h.mm
theorem Lv.text (h : Lv w0 w a K C μ) (o n : Nat) (ho : o + n ≤ μ.B.length) : Calls Tryz.prog 17 #[Pt a.m, .int .i64 (o : Int), .int .i64 (n : Int)] w fun e w' => e = .returned (.tuple #[.string (textB ((μ.B.drop o).take n)), .int .i64 0]) ∧ w = w' := by
  obtain ⟨T, h, _⟩ := h; exact text_ok h.mm o n ho
theorem Lv.depth (h : Lv w0 w a K C μ) : Calls Tryz.prog 23 #[Pt a.p] w fun e w' => e = .returned (.int .i64 (C.length : Int)) ∧ w = w' := by
  obtain ⟨T, h, _⟩ := h; exact depth_calls h.st
theorem Lv.all (h : Lv w0 w a K C μ) : Calls Tryz.prog 15 #[Pt a.p] w fun e w' => ∃ b c, e = .returned (.slice (some ⟨b, 0, none⟩) C.length c) ∧ Ow w' b C c ∧ Lv w0 w' a ((b, w'.heap[b]?) :: K) C μ ∧ Mod [] w w' := by
  obtain ⟨T, h1, m, hT⟩ := h
  exact (all_calls h1.st).mono fun e w' ⟨b, c, e1, ho, hb, k⟩ => ⟨b, c, e1, ho, (show Lv w0 w a K C μ from ⟨T, h1, m, hT⟩).hold k hb ho.lt, k⟩
def Lv.Did (w0 w : World) (a : Ad) (K : List (Nat × Option Obj)) (C : List Int) (μ : Mu) (er : Int) (e : Ending) (w' : World) : Prop := e = .returned (.int .i64 er) ∧ Lv w0 w' a K C μ
theorem Lv.put (h : Lv w0 w a K C μ) {A : Option Addr} {n : Nat} (cap : Nat) {X : List Int} (hs : Sl w A X) (hn : n = X.length) (hI : ∀ x ∈ X, I64 x) (hm : n ≤ 9223372036854775807) :
    Calls Tryz.prog 13 #[Pt a.p, .slice A n cap] w (Lv.Did w0 w a K (putL X C).2 μ (putL X C).1) := by
  obtain ⟨T, h, m⟩ := h
  exact (put_calls h.st cap hs hn hI hm).mono fun e w' ⟨e1, s, k⟩ => ⟨e1, .step m (.of_mod k (by simp; exact h.ts.2.1)) (h.stack k s)⟩
theorem Lv.push (h : Lv w0 w a K C μ) (x : Int) (hx : I64 x) :
    Calls Tryz.prog 27 #[Pt a.p, .int .i64 x] w (Lv.Did w0 w a K (putL [x] C).2 μ (putL [x] C).1) := by
  obtain ⟨T, h, m⟩ := h
  exact (push_calls h.st x hx).mono fun e w' ⟨e1, s, k⟩ => ⟨e1, .step m (.of_mod k (by simp; exact h.ts.2.1)) (h.stack k s)⟩
theorem Lv.cut (h : Lv w0 w a K C μ) (n : Int) (hn : I64 n) :
    Calls Tryz.prog 26 #[Pt a.p, .int .i64 n] w fun e w' => e = .returned (.tuple #[]) ∧ Lv w0 w' a K (cutL (clamp n) C) μ := by
  obtain ⟨T, h, m⟩ := h
  exact (cut_calls h.st n hn).mono fun e w' ⟨e1, s, k⟩ => ⟨e1, .step m (.of_mod k (by simp; exact h.ts.2.1)) (h.stack k s)⟩
theorem Lv.say (h : Lv w0 w a K C μ) (S : ByteArray) (hS : S.size ≤ 9223372036854775807) :
    Calls Tryz.prog 28 #[Pt a.s, .string S] w fun e w' => e = .returned (.tuple #[]) ∧ Lv w0 w' a K C { μ with O := sayL μ.O S } := by
  obtain ⟨T, h, m⟩ := h
  exact (say_of h S hS).mono fun e w' ⟨e1, T', tn, h2⟩ => ⟨e1, .step m tn h2⟩
theorem Lv.base (h : Lv w0 w a K C μ) : Calls Tryz.prog 21 #[Pt a.s] w fun e w' => e = .returned (.tuple #[.int .i64 (baseV μ), .int .i64 (baseE μ)]) ∧ w = w' := by
  obtain ⟨T, h, _⟩ := h; exact base_of h
theorem Lv.doany (h : Lv w0 w a K C μ) (n : Int) : Calls Tryz.prog 14 #[Pt a.s, .int .i64 n] w fun e w' => ∃ er C' μ', Lv.Did w0 w a K C' μ' er e w' ∧ (er = 1 ↔ ¬ (1 ≤ n ∧ n ≤ 107)) ∧ (er ≠ 0 → C' = C ∧ μ' = μ) := by
  obtain ⟨T, h, m⟩ := h
  exact (do_any h n).mono fun e w' ⟨er, C', μ', T', e1, tn, h2, k1, k2⟩ => ⟨er, C', μ', ⟨e1, .step m tn h2⟩, k1, k2⟩
theorem Lv.uni {R X : List Int} {n : Int} {P : List Int} {er : Int} {μ' : Mu} (h : Lv w0 w a K (R ++ X) μ) (hn : 1 ≤ n ∧ n ≤ 107) (hk : arity n = X.length) (U : Uni n X.length X μ P er μ') (hI : ∀ x ∈ P, I64 x) (hP : P.length ≤ 1000000) :
    Calls Tryz.prog 14 #[Pt a.s, .int .i64 n] w (Lv.Did w0 w a K (doR X ⟨P, er, R, μ'⟩).2.1 (doR X ⟨P, er, R, μ'⟩).2.2 (doR X ⟨P, er, R, μ'⟩).1) := by
  obtain ⟨T, h, m⟩ := h
  obtain ⟨S, hS⟩ := shp_known a.s n hn
  have ha := shp_arity a.s n S hS
  have e : (R ++ X).length - X.length = R.length := by simp
  have hl := h.st.n
  have hd := do_known h n hn S hS X.length (by rw [ha, hk]) (by simp) ⟨P, er, R, μ'⟩ (by rw [e, List.take_left, List.drop_left]; exact U a R) hI hP (by simpa using hl)
  rw [e, List.drop_left] at hd
  exact hd.mono fun e w' ⟨e1, T', tn, h2⟩ => ⟨e1, .step m tn h2⟩
/-- An operation that fits. -/
theorem Lv.ok {R X : List Int} {n : Int} {P : List Int} {μ' : Mu} (h : Lv w0 w a K (R ++ X) μ) (hn : 1 ≤ n ∧ n ≤ 107) (hk : arity n = X.length) (U : Uni n X.length X μ P 0 μ') (hI : ∀ x ∈ P, I64 x) (hP : R.length + P.length ≤ 128) :
    Calls Tryz.prog 14 #[Pt a.s, .int .i64 n] w (Lv.Did w0 w a K (R ++ P) μ' 0) := by
  have := h.uni hn hk U hI (by omega)
  have e : doR X ⟨P, 0, R, μ'⟩ = (0, R ++ P, μ') := by unfold doR; rw [if_pos rfl, if_neg (by show ¬ 128 < R.length + P.length; omega)]
  rw [e] at this
  exact this
/-- One that ends with an error. -/
theorem Lv.err {R X : List Int} {n : Int} {P : List Int} {er : Int} {μ' : Mu} (h : Lv w0 w a K (R ++ X) μ) (hn : 1 ≤ n ∧ n ≤ 107) (hk : arity n = X.length) (U : Uni n X.length X μ P er μ') (he : er ≠ 0) (hI : ∀ x ∈ P, I64 x) (hP : P.length ≤ 1000000) :
    Calls Tryz.prog 14 #[Pt a.s, .int .i64 n] w (Lv.Did w0 w a K (R ++ X) μ' er) := by
  have := h.uni hn hk U hI hP
  have e : doR X ⟨P, er, R, μ'⟩ = (er, R ++ X, μ') := by unfold doR; rw [if_neg he]
  rw [e] at this
  exact this
/-- One of the stack's own. -/
theorem Lv.stk (h : Lv w0 w a K C μ) (n : Int) (hn : 28 ≤ n ∧ n ≤ 42) : Calls Tryz.prog 14 #[Pt a.s, .int .i64 n] w (Lv.Did w0 w a K (doL n C).2 μ (doL n C).1) := by
  obtain ⟨T, h, m⟩ := h
  have hn' : 1 ≤ n ∧ n ≤ 107 := by omega
  obtain ⟨S, hS⟩ := shp_known a.s n hn'
  have hk := shp_arity a.s n S hS
  have hl := h.st.n
  have e : arity n = 0 := by unfold arity; rw [if_neg (by omega), if_neg (by omega), if_pos hn]
  rw [e] at hk
  have hle := doL_128 n C hl
  have hd := do_known h n hn' S hS 0 hk (Nat.zero_le _) ⟨[], (doL n C).1, (doL n C).2, μ⟩ (by rw [Nat.sub_zero, List.take_length, List.drop_length]; exact act_stk a n C μ hn) (by simp) (by simp) (by simpa using hle)
  have e2 : doR (C.drop (C.length - 0)) ⟨[], (doL n C).1, (doL n C).2, μ⟩ = ((doL n C).1, (doL n C).2, μ) := by
    rw [Nat.sub_zero, List.drop_length]
    unfold doR
    simp only [List.append_nil, List.length_nil, Nat.add_zero]
    split
    · rename_i h0; rw [if_neg (by omega), h0]
    · rfl
  rw [e2] at hd
  exact hd.mono fun e w' ⟨e1, T', tn, h2⟩ => ⟨e1, .step m tn h2⟩
end
theorem eight : str (sayL [] (str (numL 10 (lo 8) (hi 8)))) = ⟨#[56, 32]⟩ := by
  decide +kernel
theorem base0 (n : Nat) : baseC (mu0 n) = 10 := by
  have e : (mu0 n).B.take 8 = le8 10 := by
    show (splice (zeros n) 0 (le8 10)).take 8 = le8 10
    unfold splice
    simp [le8]
  unfold baseC
  rw [e]
  exact cellOf_le8 (by unfold I64; omega)
theorem dot8 (n : Nat) : Uni 91 1 [8] (mu0 n) [] 0 { mu0 n with O := sayL [] (str (numL 10 (lo 8) (hi 8))) } :=
  act_91_of 8 (by unfold I64; omega) [] 0 (mu0 n) _ fun W a T R h => saynum_ok (lo_i64 8) (hi_i64 8) 10 (base0 n) (by decide) (by decide) h
set_option maxHeartbeats 1000000 in
set_option maxRecDepth 100000 in
theorem shown13 (w : World) (g : Good w) : Calls Tryz.prog 10 #[] w fun e w' => e = .returned (.bool true) ∧ Mod [] w w' := by
  go_enter Tryz.func10, Tryz.ntmps10
  go_wp2_with fail
  refine (lv_new 1024 (Mod.refl [] w) g (by decide) (by decide) (by decide)).mono ?_
  rintro e w1 ⟨a, rfl, h1, _⟩
  have H1 := Lib.hid h1
  clear h1
  go_wp2_with fail
  refine (H1.out.ok (R := []) (X := []) (n := 82) (by decide) rfl (act_82 _) (one_in (by unfold mu0 I64; simp)) (by decide)).mono ?_
  rintro e w2 ⟨rfl, h2⟩
  have H2 := Lib.hid (show Lv w w2 a [] [8] (mu0 1024) from h2)
  clear h2 H1
  go_wp2_with fail
  refine (H2.out.stack).mono ?_
  rintro e w3 ⟨rfl, rfl⟩
  go_wp2_with fail
  refine (H2.out.all).mono ?_
  rintro e w3 ⟨b, c, rfl, ho, h3, hm⟩
  have H3 := Lib.hid (And.intro h3 ho)
  clear H2 h3 ho hm
  go_wp2_with fail
  refine (H3.out.1.ok (R := []) (X := [8]) (n := 91) (by decide) rfl (dot8 1024) (by simp) (by decide)).mono ?_
  rintro e w4 ⟨rfl, h4⟩
  have g0 := (H3.out.2.same (h4.kept (List.mem_cons_self ..))).cell 0 (by decide)
  have g0 : w4.cell? ⟨b, 0, none⟩ = some (.int .i64 8) := g0
  have HO := Lib.hid h4.out
  rw [show str (have __src := mu0 1024; { B := __src.B, h := __src.h, O := sayL [] (str (numL 10 (lo 8) (hi 8))), K := __src.K } : Mu).O = ⟨#[56, 32]⟩ from eight] at HO
  have HM := Lib.hid h4.mod
  clear H3 h4
  go_wp2_with fail
  refine (HO.out).mono ?_
  rintro e w5 ⟨rfl, rfl⟩
  go_wp2
  go_ret
  exact ⟨rfl, HM.out⟩
end Go.Proofs.YtegcecpmdgljpaaGreatDoor
