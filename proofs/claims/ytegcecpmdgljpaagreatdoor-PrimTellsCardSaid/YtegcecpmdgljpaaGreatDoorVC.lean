/- Layer 13: rows that came in; PrimErrors's walk. Condition: the arguments are a slice of cells and a number; the listed variables hold what they hold. -/
import Derived.Test.YtegcecpmdgljpaaGreatDoorVB
namespace Go.Proofs.YtegcecpmdgljpaaGreatDoor
open Go.RowKit
set_option linter.unusedVariables false

/-- The row of a slice that came in, and its head of M cells. -/
structure Came13 (w : World) (A : Option Addr) (len cap M : Nat) (X : List Int) (k : Nat) : Prop where
  s : Sl w A X
  n : X.length = k
  e : k = min len M
  i : ∀ x ∈ X, I64 x
  c : k ≤ cap
  l : len ≤ cap
  m : cap ≤ 9223372036854775807
  a : A = none → cap = 0
  h : ∀ W, (Instr.sliceAt 22 (.slice A len cap) none (some (.int .i64 (k : Int))) none).run Tryz.prog W = .ok (.slice A k cap) W
theorem Tryz.sizeCellIn : ∀ w, (Go.sizeOf 37).run Tryz.prog w = .ok 1 w := fun w => by kernel_rfl
theorem cells_in (W : World) (A : Option Addr) (len cap k : Nat) (hk : k ≤ cap) : (Instr.sliceAt 22 (.slice A len cap) none (some (.int .i64 (k : Int))) none).run Tryz.prog W = .ok (.slice A k cap) W :=
  upto_in W _ _ Tryz.underlying22 Tryz.sizeCellIn A len cap k hk
theorem RowIn.came {w : World} {A : Option Addr} {len cap : Nat} {zs : List Int} (R : RowIn .i64 w A len cap zs) (M : Nat) : ∃ X k, Came13 w A len cap M X k := by
  rcases R with ⟨rfl, rfl, rfl, rfl⟩ | ⟨x, rfl, h1, h2, h3, h4, h5⟩
  · exact ⟨[], 0, Sl.nil _ _, rfl, by simp, by simp, Nat.le_refl _, Nat.le_refl _, by omega, fun _ => rfl, fun W => cells_in W _ _ _ 0 (Nat.le_refl _)⟩
  · refine ⟨zs.take (min len M), min len M, fun j hj => ?_, by simp; omega, rfl, fun y hy => i64_of_wf (h5 y (List.mem_of_mem_take hy)), by omega, h1, by unfold maxLen at h2; omega, by simp, fun W => cells_in W _ _ _ _ (by omega)⟩
    have hj' : j < zs.length := by simp at hj; omega
    have hc := h4 j hj'
    have e : (zs.take (min len M))[j] = zs.getD j 0 := by simp [List.getD, List.getElem?_eq_getElem hj']
    rw [e]
    have hsp : x.spot = none := by
      have h0 := h4 0 (by omega)
      rw [add_zero_in] at h0
      exact World.cell?_spot h0
    obtain ⟨b, o, sp⟩ := x
    cases sp with
    | none =>
      refine ⟨b, o, rfl, ?_⟩
      have : (⟨b, o, none⟩ : Addr).add j = ⟨b, o + j, none⟩ := by unfold Addr.add; split <;> simp_all
      rw [← this]
      exact hc
    | some s => simp at hsp
theorem putL_nil (X : List Int) (h : X.length ≤ 128) : putL X [] = (0, X) := by rw [putL_ok (by simpa using h)]; rfl
theorem begin_uni (μ : Mu) : Uni 102 0 [] μ [] 0 { μ with K := [] } := act_102_of _ _ μ _ fun W a T R h => begin_calls h
theorem Lv.ok0 {w0 w : World} {a : Ad} {K : List (Nat × Option Obj)} {C : List Int} {μ : Mu} {n : Int} {P : List Int} {μ' : Mu} (h : Lv w0 w a K C μ) (hn : 1 ≤ n ∧ n ≤ 107) (hk : arity n = 0) (U : Uni n 0 [] μ P 0 μ') (hI : ∀ x ∈ P, I64 x) (hP : C.length + P.length ≤ 128) :
    Calls Tryz.prog 14 #[Pt a.s, .int .i64 n] w (Lv.Did w0 w a K (C ++ P) μ' 0) :=
  (show Lv w0 w a K (C ++ []) μ by rw [List.append_nil]; exact h).ok hn hk U hI hP
theorem Lv.textany {w0 w : World} {a : Ad} {K : List (Nat × Option Obj)} {C : List Int} {μ : Mu} (h : Lv w0 w a K C μ) (x n : Int) (hx : I64 x) (hn : I64 n) : ∃ s e, Calls Tryz.prog 17 #[Pt a.m, .int .i64 x, .int .i64 n] w fun e' w' => e' = .returned (.tuple #[.string s, .int .i64 e]) ∧ w = w' := by
  obtain ⟨T, h, _⟩ := h
  obtain ⟨s, e, _, _, H⟩ := text_all μ.B μ.h x n hx hn h.mm.hi
  exact ⟨s, e, H w a.m a.q h.mm⟩
set_option maxHeartbeats 4000000 in
set_option maxRecDepth 100000 in
theorem errors_walk {w : World} (g : Good w) (A : Option Addr) (len cap : Nat) (zs : List Int) (hr : RowIn .i64 w A len cap zs) (op : Int) (ho : (Lit.int .i64 op).wf = true) :
    Calls Tryz.prog 3 #[.slice A len cap, .int .i64 op] w fun e w' => e = .returned (.bool true) ∧ Mod [] w w' := by
  obtain ⟨X, k, C1⟩ := hr.came 128
  have D1 := Lib.hid C1
  have G := Lib.hid g
  clear hr ho C1 g
  go_enter Tryz.func3, Tryz.ntmps3
  go_wp2_with fail
  refine (shown13 w G.out).mono ?_
  rintro e w1 ⟨rfl, m1⟩
  have M1 := Lib.hid m1
  clear m1
  go_wp2_with fail
  refine (lv_new 1024 M1.out (G.out.mod M1.out (by simp)) (by decide) (by decide) (by decide)).mono ?_
  rintro e w2 ⟨a, rfl, h2, _⟩
  have H2 := Lib.hid h2
  clear h2 M1
  have hm1 : min (len : Int) 128 = (k : Int) := by rw [D1.out.e]; omega
  have hs1 := D1.out.h
  have h3 := H2.out.far (Mod.refl [] w2).drew
  have HS := Lib.hid h3.stack
  have HP := Lib.hid (h3.put cap (D1.out.s.mod h3.mod (by simp)) D1.out.n.symm D1.out.i (by have := D1.out.c; have := D1.out.m; omega))
  have hn1 : X.length ≤ 128 := by rw [D1.out.n, D1.out.e]; exact Nat.min_le_right _ _
  rw [putL_nil X hn1] at HP
  clear h3
  go_wp2_with fail
  go_region_held3 (fun _ => True) (exact trivial) (first | ((with_reducible refine (HS.out).mono ?_); rintro e w3 ⟨rfl, rfl⟩) | ((with_reducible refine (HP.out).mono ?_); rintro e w3 ⟨rfl, h3⟩; have H3 := Lib.hid (show Lv w w3 a [] X (mu0 1024) from h3); clear h3) | fail)
  all_goals
    clear H2 HS HP hs1 hm1
    go_wp2_with fail
    refine (H3.out.ok0 (n := 102) (by decide) rfl (begin_uni _) (by simp) (by simpa using hn1)).mono ?_
    rintro e w4 ⟨rfl, h4⟩
    rw [List.append_nil] at h4
    have H4 := Lib.hid (show Lv w w4 a [] X (mu0 1024) from h4)
    clear h4 H3
    go_wp2_with fail
    refine (H4.out.stack).mono ?_
    rintro e w5 ⟨rfl, rfl⟩
    go_wp2_with fail
    refine (H4.out.all).mono ?_
    rintro e w5 ⟨b, c, rfl, ho, h5, hm⟩
    have H5 := Lib.hid (And.intro h5 ho)
    clear H4 h5 ho hm
    go_wp2_with fail
    refine (H5.out.1.memo).mono ?_
    rintro e w6 ⟨rfl, rfl⟩
    have HB : (mu0 1024).B.length = 1024 := by
      show (splice (zeros 1024) 0 (le8 10)).length = 1024
      rw [splice_len (by simp [zeros, le8])]; simp [zeros]
    have ht := H5.out.1.text 0 1024 (by rw [HB]; decide)
    obtain ⟨S, hS⟩ : ∃ S, S = textB (((mu0 1024).B.drop 0).take 1024) := ⟨_, rfl⟩
    rw [← hS] at ht
    have HS := Lib.hid hS
    have HT := Lib.hid ht
    clear ht hS
    go_wp2_with fail
    refine (HT.out).mono ?_
    rintro e w6 ⟨rfl, rfl⟩
    clear HT
    go_wp2_with fail
    refine (H5.out.1.doany op).mono ?_
    rintro e w6 ⟨er, C', μ', ⟨rfl, h6⟩, hk, h0⟩
    have g0 := H5.out.2.same (h6.kept (List.mem_cons_self ..))
    have H6 := Lib.hid (And.intro h6 (And.intro g0 h0))
    obtain ⟨S2, e2, ht⟩ := h6.textany 0 1024 zero_i64 (by unfold I64; omega)
    have HT2 := Lib.hid ht
    have HE := Lib.hid (And.intro HS.out HB)
    have HK := Lib.hid hk
    clear h6 g0 h0 ht H5 HS HB hk D1 G
    by_cases e0 : er = 0
    · subst e0
      have hk := HK.out
      have l1 : 1 ≤ op := by refine Classical.byContradiction fun h => ?_; exact absurd (hk.2 fun k => h k.1) (by decide)
      have l2 : op < 108 := by refine Classical.byContradiction fun h => ?_; exact absurd (hk.2 fun k => by omega) (by decide)
      clear hk HK
      go_wp2_with fail
      refine (H6.out.1.memo).mono ?_
      rintro e w7 ⟨rfl, rfl⟩
      go_wp2_with fail
      refine (HT2.out).mono ?_
      rintro e w7 ⟨rfl, rfl⟩
      clear HT2
      go_wp2_with fail
      refine (do_none op _).mono ?_
      rintro e w7 ⟨rfl, rfl⟩
      go_wp2_with fail
      refine (out_none _).mono ?_
      rintro e w7 ⟨rfl, rfl⟩
      go_wp2_with fail
      refine (stack_none _).mono ?_
      rintro e w7 ⟨rfl, rfl⟩
      go_wp2_with fail
      refine (mem_none _).mono ?_
      rintro e w7 ⟨rfl, rfl⟩
      go_wp2
      go_ret
      exact ⟨rfl, H6.out.1.mod⟩
    by_cases e1 : er = 1
    · subst e1
      have hk := HK.out.1 rfl
      clear HK e0
      have ee := H6.out.2.2 (by decide)
      rw [ee.1, ee.2] at H6
      clear ee
      have HT2 := Lib.hid (H6.out.1.text 0 1024 (by rw [HE.out.2]; decide))
      rw [← HE.out.1] at HT2
      by_cases l1 : 1 ≤ op
      · have l2 : ¬ op < 108 := fun h => hk ⟨l1, by omega⟩
        clear hk
        go_wp2_with fail
        refine (H6.out.1.memo).mono ?_
        rintro e w7 ⟨rfl, rfl⟩
        go_wp2_with fail
        refine (HT2.out).mono ?_
        rintro e w7 ⟨rfl, rfl⟩
        clear HT2
        go_wp2_with fail
        refine (do_none op _).mono ?_
        rintro e w7 ⟨rfl, rfl⟩
        go_wp2_with fail
        refine (out_none _).mono ?_
        rintro e w7 ⟨rfl, rfl⟩
        go_wp2_with fail
        refine (stack_none _).mono ?_
        rintro e w7 ⟨rfl, rfl⟩
        go_wp2_with fail
        refine (mem_none _).mono ?_
        rintro e w7 ⟨rfl, rfl⟩
        go_wp2_with fail
        refine (H6.out.1.stack).mono ?_
        rintro e w8 ⟨rfl, rfl⟩
        go_wp2_with fail
        refine (H6.out.1.all).mono ?_
        rintro e w8 ⟨b2, c2, rfl, ho2, h8, hm⟩
        have hX := H6.out.1.n
        have HSA := Lib.hid (same_calls (c := c2) (d := c) ho2.sl (H6.out.2.1.mod hm (by simp)).sl rfl rfl (by omega) (by omega))
        have H8 := Lib.hid h8
        clear h8 ho2 hm hX H6
        go_wp2_with fail
        refine (HSA.out).mono ?_
        rintro e w9 ⟨rfl, hm9⟩
        have H9 := Lib.hid (H8.out.far hm9)
        clear H8 hm9 HSA
        rw [decide_eq_true (rfl : X = X)]
        go_wp2_with fail
        refine (H9.out.out).mono ?_
        rintro e w10 ⟨rfl, rfl⟩
        rw [show str (mu0 1024).O = ⟨#[]⟩ from rfl]
        go_wp2_with fail
        refine (H9.out.memo).mono ?_
        rintro e w10 ⟨rfl, rfl⟩
        go_wp2_with fail
        refine (H9.out.here).mono ?_
        rintro e w10 ⟨rfl, rfl⟩
        rw [show (mu0 1024).h = 8 from rfl]
        go_wp2
        go_ret
        exact ⟨rfl, H9.out.mod⟩
      · clear hk
        go_wp2_with fail
        refine (H6.out.1.memo).mono ?_
        rintro e w7 ⟨rfl, rfl⟩
        go_wp2_with fail
        refine (HT2.out).mono ?_
        rintro e w7 ⟨rfl, rfl⟩
        clear HT2
        go_wp2_with fail
        refine (do_none op _).mono ?_
        rintro e w7 ⟨rfl, rfl⟩
        go_wp2_with fail
        refine (out_none _).mono ?_
        rintro e w7 ⟨rfl, rfl⟩
        go_wp2_with fail
        refine (stack_none _).mono ?_
        rintro e w7 ⟨rfl, rfl⟩
        go_wp2_with fail
        refine (mem_none _).mono ?_
        rintro e w7 ⟨rfl, rfl⟩
        go_wp2_with fail
        refine (H6.out.1.stack).mono ?_
        rintro e w8 ⟨rfl, rfl⟩
        go_wp2_with fail
        refine (H6.out.1.all).mono ?_
        rintro e w8 ⟨b2, c2, rfl, ho2, h8, hm⟩
        have hX := H6.out.1.n
        have HSA := Lib.hid (same_calls (c := c2) (d := c) ho2.sl (H6.out.2.1.mod hm (by simp)).sl rfl rfl (by omega) (by omega))
        have H8 := Lib.hid h8
        clear h8 ho2 hm hX H6
        go_wp2_with fail
        refine (HSA.out).mono ?_
        rintro e w9 ⟨rfl, hm9⟩
        have H9 := Lib.hid (H8.out.far hm9)
        clear H8 hm9 HSA
        rw [decide_eq_true (rfl : X = X)]
        go_wp2_with fail
        refine (H9.out.out).mono ?_
        rintro e w10 ⟨rfl, rfl⟩
        rw [show str (mu0 1024).O = ⟨#[]⟩ from rfl]
        go_wp2_with fail
        refine (H9.out.memo).mono ?_
        rintro e w10 ⟨rfl, rfl⟩
        go_wp2_with fail
        refine (H9.out.here).mono ?_
        rintro e w10 ⟨rfl, rfl⟩
        rw [show (mu0 1024).h = 8 from rfl]
        go_wp2
        go_ret
        exact ⟨rfl, H9.out.mod⟩
    · have hk := HK.out
      have l1 : 1 ≤ op := by refine Classical.byContradiction fun h => ?_; exact e1 (hk.2 fun k => h k.1)
      have l2 : op < 108 := by refine Classical.byContradiction fun h => ?_; exact e1 (hk.2 fun k => by omega)
      have b1 : (er == 1) = false := by simpa using e1
      have b0 : (er == 0) = false := by simpa using e0
      clear hk HK
      have ee := H6.out.2.2 e0
      rw [ee.1, ee.2] at H6
      clear ee
      have HT2 := Lib.hid (H6.out.1.text 0 1024 (by rw [HE.out.2]; decide))
      rw [← HE.out.1] at HT2
      clear e0 e1
      go_wp2_with fail
      refine (H6.out.1.memo).mono ?_
      rintro e w7 ⟨rfl, rfl⟩
      go_wp2_with fail
      refine (HT2.out).mono ?_
      rintro e w7 ⟨rfl, rfl⟩
      clear HT2
      go_wp2_with fail
      refine (do_none op _).mono ?_
      rintro e w7 ⟨rfl, rfl⟩
      go_wp2_with fail
      refine (out_none _).mono ?_
      rintro e w7 ⟨rfl, rfl⟩
      go_wp2_with fail
      refine (stack_none _).mono ?_
      rintro e w7 ⟨rfl, rfl⟩
      go_wp2_with fail
      refine (mem_none _).mono ?_
      rintro e w7 ⟨rfl, rfl⟩
      go_wp2_with fail
      refine (H6.out.1.stack).mono ?_
      rintro e w8 ⟨rfl, rfl⟩
      go_wp2_with fail
      refine (H6.out.1.all).mono ?_
      rintro e w8 ⟨b2, c2, rfl, ho2, h8, hm⟩
      have hX := H6.out.1.n
      have HSA := Lib.hid (same_calls (c := c2) (d := c) ho2.sl (H6.out.2.1.mod hm (by simp)).sl rfl rfl (by omega) (by omega))
      have H8 := Lib.hid h8
      clear h8 ho2 hm hX H6
      go_wp2_with fail
      refine (HSA.out).mono ?_
      rintro e w9 ⟨rfl, hm9⟩
      have H9 := Lib.hid (H8.out.far hm9)
      clear H8 hm9 HSA
      rw [decide_eq_true (rfl : X = X)]
      go_wp2_with fail
      refine (H9.out.out).mono ?_
      rintro e w10 ⟨rfl, rfl⟩
      rw [show str (mu0 1024).O = ⟨#[]⟩ from rfl]
      go_wp2_with fail
      refine (H9.out.memo).mono ?_
      rintro e w10 ⟨rfl, rfl⟩
      go_wp2_with fail
      refine (H9.out.here).mono ?_
      rintro e w10 ⟨rfl, rfl⟩
      rw [show (mu0 1024).h = 8 from rfl]
      go_wp2
      go_ret
      exact ⟨rfl, H9.out.mod⟩
end Go.Proofs.YtegcecpmdgljpaaGreatDoor
