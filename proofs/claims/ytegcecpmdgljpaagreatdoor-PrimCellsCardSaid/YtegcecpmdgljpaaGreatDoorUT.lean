/- Layer 13: a number as text, made from its last digit on. Condition: cells are cells. -/
import Derived.Test.YtegcecpmdgljpaaGreatDoorUS
namespace Go.Proofs.YtegcecpmdgljpaaGreatDoor
open Go.RowKit
set_option linter.unusedVariables false

section
variable {W : World} {a : Ad} {T : List Nat} {R : List Int} {μ : Mu}
def holdE (μ : Mu) : Int := if 200 ≤ μ.K.length then -17 else 0
def holdM (μ : Mu) (c : UInt8) : Mu := if 200 ≤ μ.K.length then μ else { μ with K := c :: μ.K }
set_option maxRecDepth 100000 in
theorem hold0 (c : UInt8) (h : Stt W a T R μ) : Calls Tryz.prog 179 #[Pt a.s, .string (str [c])] W fun e w' => e = .returned (.int .i64 (holdE μ)) ∧ Tn T T W w' ∧ Stt w' a T R (holdM μ c) := by
  have hK := h.lK
  have c3 := h.c3
  have hs := str_size μ.K
  unfold holdE holdM
  by_cases hl : 200 ≤ μ.K.length
  · rw [if_pos hl, if_pos hl]
    obtain ⟨S, hS⟩ : ∃ S, S = str μ.K := ⟨_, rfl⟩
    rw [← hS] at c3 hs
    have h1 : (200 : Int) ≤ (S.size : Int) := by omega
    have HH := Lib.hid h
    clear hS h
    go_enter Tryz.func179, Tryz.ntmps179
    go_wp2
    go_ret
    exact ⟨rfl, Tn.refl _ _, HH.out⟩
  · rw [if_neg hl, if_neg hl]
    have f3 := h.f 3
    have hc := h.conv (c :: μ.K) (by simp; omega)
    have hm : Mod [a.s] W (W.setCell ⟨a.s, 3, none⟩ (.string (str (c :: μ.K)))) := (Mod.refl [a.s] W).set (x := ⟨a.s, 3, none⟩) (by simp) _
    have hadd : (Op.stringOp .add (str [c]) (str μ.K)).run Tryz.prog W = .ok (.string (str (c :: μ.K))) W := by
      rw [run_string_add_sum (P := Tryz.prog) (w := W) _ _ (by rw [str_size, str_size]; simp; omega)]
      have : str [c] ++ str μ.K = str (c :: μ.K) := str_append [c] μ.K
      rw [this]
    have HH := Lib.hid (And.intro hc (Tn.of_mod hm (T := T) (by simp; exact h.ts.1)))
    obtain ⟨S, hS⟩ : ∃ S, S = str μ.K := ⟨_, rfl⟩
    obtain ⟨S1, hS1⟩ : ∃ S, S = str [c] := ⟨_, rfl⟩
    obtain ⟨S2, hS2⟩ : ∃ S, S = str (c :: μ.K) := ⟨_, rfl⟩
    rw [← hS] at c3 hs hadd
    rw [← hS1] at hadd ⊢
    rw [← hS2] at hadd HH
    have h1 : ¬ (200 : Int) ≤ (S.size : Int) := by omega
    clear hS h hS1 hS2 hc hm
    go_enter Tryz.func179, Tryz.ntmps179
    go_wp2
    go_ret
    exact ⟨rfl, HH.out.2, HH.out.1⟩
theorem hold_calls (c : UInt8) (h : Stt W a T R μ) : Calls Tryz.prog 179 #[Pt a.s, .string (str [c])] W (MethE a T W (holdE μ) R (holdM μ c)) :=
  (hold0 c h).mono fun e w' ⟨h1, h2, h3⟩ => ⟨T, h1, h2, h3⟩
def signE (μ : Mu) (x : Int) : Int := if x < 0 then holdE μ else 0
def signM (μ : Mu) (x : Int) : Mu := if x < 0 then holdM μ 45 else μ
theorem holdsign_calls (x : Int) (h : Stt W a T R μ) : Calls Tryz.prog 181 #[Pt a.s, .int .i64 x] W (MethE a T W (signE μ x) R (signM μ x)) := by
  unfold signE signM
  by_cases hx : x < 0
  · rw [if_pos hx, if_pos hx]
    have HC := Lib.hid (hold_calls 45 h)
    rw [show str [45] = (⟨#[45]⟩ : ByteArray) from rfl] at HC
    have hx2 : ¬ 0 ≤ x := by omega
    obtain ⟨e, he⟩ : ∃ e, e = holdE μ := ⟨_, rfl⟩
    rw [← he] at HC ⊢
    clear h he
    go_enter Tryz.func181, Tryz.ntmps181
    go_wp2_with fail
    refine (HC.out).mono ?_
    rintro e' w2 ⟨T', rfl, tn, h2⟩
    go_wp2
    go_ret
    exact ⟨T', rfl, tn, h2⟩
  · rw [if_neg hx, if_neg hx]
    have HH := Lib.hid h
    have hx2 : 0 ≤ x := by omega
    clear h
    go_enter Tryz.func181, Tryz.ntmps181
    go_wp2
    go_ret
    exact ⟨T, rfl, Tn.refl _ _, HH.out⟩
theorem begin_calls (h : Stt W a T R μ) : Calls Tryz.prog 173 #[Pt a.s] W (Acted a T W ⟨[], 0, R, { μ with K := [] }⟩) := by
  have f3 := h.f 3
  have c3 := h.c3
  have hc := h.conv [] (by simp)
  have hm : Mod [a.s] W (W.setCell ⟨a.s, 3, none⟩ (.string (str []))) := (Mod.refl [a.s] W).set (x := ⟨a.s, 3, none⟩) (by simp) _
  have HH := Lib.hid (And.intro hc (Tn.of_mod hm (T := T) (by simp; exact h.ts.1)))
  clear h hc hm
  go_enter Tryz.func173, Tryz.ntmps173
  go_wp2
  go_ret2
  exact ⟨none, 0, 0, T, rfl, rfl, Sl.nil _ _, HH.out.2, HH.out.1⟩
/-- A method ended with a pair, and an error. -/
def MethP (a : Ad) (T : List Nat) (W : World) (x y er : Int) (R : List Int) (μ : Mu) (e : Ending) (w' : World) : Prop := e = .returned (.tuple #[.agg #[.int .i64 x, .int .i64 y], .int .i64 er]) ∧ Tn T T W w' ∧ Stt w' a T R μ
set_option maxHeartbeats 2000000 in
set_option maxRecDepth 100000 in
theorem holddigit_err {x y : Int} (hb : baseE μ ≠ 0) (h : Stt W a T R μ) : Calls Tryz.prog 215 #[Pt a.s, .agg #[.int .i64 x, .int .i64 y]] W (MethP a T W 0 0 (baseE μ) R μ) := by
  obtain ⟨q1, q2⟩ := q_ne hb
  have A1 := far_alloc W (.cells #[.int .i64 x, .int .i64 y] 44)
  have s1 := size_alloc W (.cells #[.int .i64 x, .int .i64 y] 44)
  obtain ⟨W1, hW1⟩ : ∃ V, V = W.alloc (.cells #[.int .i64 x, .int .i64 y] 44) := ⟨_, rfl⟩
  rw [← hW1] at A1 s1
  have A2 := far_alloc W1 (.cells #[.int .i64 0, .int .i64 0] 44)
  have o2 : Own (W1.alloc (.cells #[.int .i64 0, .int .i64 0] 44)) W1.heap.size (.int .i64 0) (.int .i64 0) := Own.last
  obtain ⟨W2, hW2⟩ : ∃ V, V = W1.alloc (.cells #[.int .i64 0, .int .i64 0] 44) := ⟨_, rfl⟩
  rw [← hW2] at A2 o2
  rw [s1] at o2
  have M := A1.far A2
  have h2 := h.far M
  have HC := Lib.hid (base_of h2)
  obtain ⟨t0, t1, t2, t3, _⟩ := o2
  have MM := M.then (set2_mod W2 (W.heap.size + 1) (.int .i64 0) (.int .i64 0)) (by simp)
  have HH := Lib.hid (And.intro (h.far MM) MM)
  obtain ⟨e, he⟩ : ∃ e, e = baseE μ := ⟨_, rfl⟩
  obtain ⟨v, hv⟩ : ∃ e, e = baseV μ := ⟨_, rfl⟩
  rw [← he, ← hv] at HC
  rw [← he] at q1 q2 ⊢
  clear h h2 hb he hv A1 A2 s1 M MM
  go_enter Tryz.func215, Tryz.ntmps215
  go_wp2_with fail
  rw [← hW1, ← hW2]
  clear hW1 hW2
  refine (HC.out).mono ?_
  rintro e' w2 ⟨rfl, rfl⟩
  go_wp2
  exact bodyPost_ret (v := .tuple #[.agg #[.int .i64 0, .int .i64 0], .int .i64 e]) (by simp [results, Tryz.results215, go_sem, t0, t1]) rfl ⟨rfl, Tn.far HH.out.2, HH.out.1⟩
set_option maxHeartbeats 4000000 in
set_option maxRecDepth 100000 in
theorem holddigit_ok {x y : Int} (hx : I64 x) (hy : I64 y) (B P : Nat) (hP : Go.Proofs.YtegcecpmdgljpaaGreatDoor.W x y = (P : Int)) (hB : baseC μ = (B : Int)) (h2 : 2 ≤ B) (h36 : B ≤ 36) (h : Stt W a T R μ) :
    Calls Tryz.prog 215 #[Pt a.s, .agg #[.int .i64 x, .int .i64 y]] W (MethP a T W (lo ((P / B : Nat) : Int)) (hi ((P / B : Nat) : Int)) (holdE μ) R (holdM μ (letter (P % B)))) := by
  have e1 : baseV μ = (B : Int) := by unfold baseV; rw [if_pos (by omega), hB]
  have e2 : baseE μ = 0 := by unfold baseE; rw [if_pos (by omega)]
  have A1 := far_alloc W (.cells #[.int .i64 x, .int .i64 y] 44)
  have s1 := size_alloc W (.cells #[.int .i64 x, .int .i64 y] 44)
  have o1 : Own (W.alloc (.cells #[.int .i64 x, .int .i64 y] 44)) W.heap.size (.int .i64 x) (.int .i64 y) := Own.last
  obtain ⟨W1, hW1⟩ : ∃ V, V = W.alloc (.cells #[.int .i64 x, .int .i64 y] 44) := ⟨_, rfl⟩
  rw [← hW1] at A1 s1 o1
  have A2 := far_alloc W1 (.cells #[.int .i64 0, .int .i64 0] 44)
  have o2 : Own (W1.alloc (.cells #[.int .i64 0, .int .i64 0] 44)) W1.heap.size (.int .i64 0) (.int .i64 0) := Own.last
  obtain ⟨W2, hW2⟩ : ∃ V, V = W1.alloc (.cells #[.int .i64 0, .int .i64 0] 44) := ⟨_, rfl⟩
  rw [← hW2] at A2 o2
  rw [s1] at o2
  have o1' := o1.mod A2 (by simp)
  have M := A1.far A2
  have hs2 := h.far M
  have HC := Lib.hid (base_of hs2)
  rw [e1, e2] at HC
  have HS := Lib.hid (fun V' => step_calls x y (B : Int) hx hy P B hP rfl h2 h36 V')
  obtain ⟨c, hc⟩ : ∃ c, c = letter (P % B) := ⟨_, rfl⟩
  obtain ⟨p0, hp0⟩ : ∃ c, c = lo ((P / B : Nat) : Int) := ⟨_, rfl⟩
  obtain ⟨p1, hp1⟩ : ∃ c, c = hi ((P / B : Nat) : Int) := ⟨_, rfl⟩
  rw [← hc, ← hp0, ← hp1] at HS ⊢
  obtain ⟨er, her⟩ : ∃ e, e = holdE μ := ⟨_, rfl⟩
  obtain ⟨μ1, hμ1⟩ : ∃ e, e = holdM μ c := ⟨_, rfl⟩
  have HK := Lib.hid (fun V' (k : Stt V' a T R μ) => hold0 c k)
  rw [← her, ← hμ1] at HK
  rw [← her, ← hμ1]
  obtain ⟨g0, g1, _, _, _⟩ := o1'
  have hz2 := A2.size
  have HJ := Lib.hid (And.intro h.hi h.good.big)
  have HH := Lib.hid (And.intro hs2 (And.intro M (And.intro o2 (And.intro h.tl hz2))))
  have hs1' := Lib.hid s1
  clear h hs2 hx hy hP hB h2 h36 e1 e2 A1 A2 s1 o1 o2 M hc hp0 hp1 her hμ1 hz2
  go_enter Tryz.func215, Tryz.ntmps215
  go_wp2_with fail
  rw [← hW1, ← hW2]
  clear hW1 hW2
  refine (HC.out).mono ?_
  rintro e' w2 ⟨rfl, rfl⟩
  clear HC
  go_wp2_with fail
  refine (HS.out _).mono ?_
  rintro e' w3 ⟨rfl, hx⟩
  have m3 := Mod.of_below hx.1
  have z3 := m3.size
  have HX := Lib.hid m3
  clear hx HS g0 g1 m3
  have o4 : Own (w3.alloc (.cells #[.int .i64 p0, .int .i64 p1] 44)) w3.heap.size (.int .i64 p0) (.int .i64 p1) := Own.last
  have A4 := far_alloc w3 (.cells #[.int .i64 p0, .int .i64 p1] 44)
  have s4 := size_alloc w3 (.cells #[.int .i64 p0, .int .i64 p1] 44)
  obtain ⟨W4, hW4⟩ : ∃ V, V = w3.alloc (.cells #[.int .i64 p0, .int .i64 p1] 44) := ⟨_, rfl⟩
  rw [← hW4] at o4 A4 s4
  have hcv : (convert 59 9 (.slice (some ⟨W4.heap.size, 0, none⟩) 1 1)).run Tryz.prog ((W4.alloc (.cells #[.int .u8 (c.toNat : Int)] 5)).drew) = .ok (.string (str [c])) ((W4.alloc (.cells #[.int .u8 (c.toNat : Int)] 5)).drew) := by
    refine run_convert_bytes_back (P := Tryz.prog) _ 59 9 5 ⟨W4.heap.size, 0, none⟩ 1 [c] Tryz.underlying59 Tryz.underlying5 Tryz.underlying9 fun j hj => ?_
    obtain rfl : j = 0 := by simp at hj; omega
    rw [WideShapes.add_plain, Nat.zero_add]
    exact cell_new W4 _ _
  rw [s4] at hcv
  have hm : Mod [] W4 W4.drew := (Mod.refl [] W4).drew
  have hma : Mod [] W4 ((W4.alloc (.cells #[.int .u8 (c.toNat : Int)] 5)).drew) := (far_alloc _ _).drew
  have HK2 := Lib.hid (HK.out _ (((HH.out.1.far HX.out).far A4).far hma))
  have g0 := o4.c0
  have g1 := o4.c1
  have r4 : w3.heap.size ∉ T := fun hx => by have := HH.out.1.tl _ hx; omega
  have r5 : W.heap.size + 1 ∉ T := fun hx => by have := HH.out.2.2.2.1 _ hx; omega
  have hr : W.heap.size + 1 < W2.heap.size := HH.out.2.2.1.lt
  have r6 : w3.heap.size ≠ W.heap.size + 1 := by omega
  have hsz4 : W4.heap.size = w3.heap.size + 1 := s4
  go_wp2_with fail
  rw [← hW4]
  clear hW4
  have o5 := (HH.out.2.2.1.mod HX.out (by simp)).mod A4 (by simp)
  have HT := Lib.hid (And.intro A4 hma)
  clear A4 s4 o4
  have k0 := hma.cell (x := ⟨w3.heap.size, 0, none⟩) (by simp) g0
  have k1 := hma.cell (x := ⟨w3.heap.size, 1, none⟩) (by simp) g1
  have q0 := hm.cell (x := ⟨w3.heap.size, 0, none⟩) (by simp) g0
  have q1 := hm.cell (x := ⟨w3.heap.size, 1, none⟩) (by simp) g1
  go_region_with (first | ((with_reducible refine (HK2.out).mono ?_); rintro e w5 ⟨rfl, tn, h5⟩; have hm2 := tn.m; obtain ⟨t0, t1, t2, t3, _⟩ := (o5.mod hma (by simp)).mod hm2 r5; have j0 := hm2.cell (x := ⟨w3.heap.size, 0, none⟩) r4 k0; have j1 := hm2.cell (x := ⟨w3.heap.size, 1, none⟩) r4 k1) | fail)
  all_goals (
    go_wp2
    have tn0 := ((Tn.far HH.out.2.1).trans (Tn.far HX.out)).trans (((Tn.far HT.out.1).trans (Tn.far HT.out.2)).trans tn)
    have h6 := h5.other (set2_mod w5 (W.heap.size + 1) (.int .i64 p0) (.int .i64 p1)) (by simpa using r5) (by simp; right; have := HJ.out.1; omega) (by simp; have := HJ.out.2; omega)
    exact bodyPost_ret (v := .tuple #[.agg #[.int .i64 p0, .int .i64 p1], .int .i64 er]) (by simp [results, Tryz.results215, go_sem, t0, t1]) rfl ⟨rfl, ⟨tn0.m.then (set2_mod _ _ _ _) (by simp), tn0.up, tn0.new⟩, h6⟩)
end
end Go.Proofs.YtegcecpmdgljpaaGreatDoor
