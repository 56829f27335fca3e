/- Layer 13: PrimCells's walk. Condition: the arguments are four cells and a byte; the listed variables hold what they hold. -/
import Derived.Test.YtegcecpmdgljpaaGreatDoorWN
namespace Go.Proofs.YtegcecpmdgljpaaGreatDoor
open Go.RowKit
set_option linter.unusedVariables false

/-- Two pairs lie in blocks of their own; the four cells lie in L. -/
def TwoB (W1 : World) (L : Nat) (x0 x1 x2 x3 : Int) (PA PB : Nat) (w : World) : Prop := (w.cell? ⟨L, 0, none⟩ = some (.int .i64 x0) ∧ w.cell? ⟨L, 1, none⟩ = some (.int .i64 x1) ∧ w.cell? ⟨L, 2, none⟩ = some (.int .i64 x2) ∧ w.cell? ⟨L, 3, none⟩ = some (.int .i64 x3)) ∧ (w.cell? ⟨PA, 0, none⟩ = some (.int .i64 x0) ∧ w.cell? ⟨PA, 1, none⟩ = some (.int .i64 x1) ∧ w.cell? ⟨PB, 0, none⟩ = some (.int .i64 x2) ∧ w.cell? ⟨PB, 1, none⟩ = some (.int .i64 x3)) ∧ Mod [] W1 w
theorem TwoB.far {W1 w w' : World} {L PA PB : Nat} {x0 x1 x2 x3 : Int} (h : TwoB W1 L x0 x1 x2 x3 PA PB w) (k : Mod [] w w') : TwoB W1 L x0 x1 x2 x3 PA PB w' := by
  obtain ⟨⟨a, b, c, d⟩, ⟨e, f, g, i⟩, m⟩ := h
  exact ⟨⟨k.cell (by simp) a, k.cell (by simp) b, k.cell (by simp) c, k.cell (by simp) d⟩, ⟨k.cell (by simp) e, k.cell (by simp) f, k.cell (by simp) g, k.cell (by simp) i⟩, m.far k⟩
theorem two_blocks {W1 v : World} {L : Nat} {x0 x1 x2 x3 : Int} (h0 : v.cell? ⟨L, 0, none⟩ = some (.int .i64 x0)) (h1 : v.cell? ⟨L, 1, none⟩ = some (.int .i64 x1)) (h2 : v.cell? ⟨L, 2, none⟩ = some (.int .i64 x2)) (h3 : v.cell? ⟨L, 3, none⟩ = some (.int .i64 x3)) (m : Mod [] W1 v) (t : TypeId) :
    TwoB W1 L x0 x1 x2 x3 v.heap.size (v.heap.size + 1) ((v.alloc (.cells #[.int .i64 x0, .int .i64 x1] t)).alloc (.cells #[.int .i64 x2, .int .i64 x3] t)).drew ∧ TwoB W1 L x0 x1 x2 x3 (v.heap.size + 1) v.heap.size ((v.alloc (.cells #[.int .i64 x2, .int .i64 x3] t)).alloc (.cells #[.int .i64 x0, .int .i64 x1] t)).drew := by
  have key : ∀ (a b c d : Value), let X := (v.alloc (.cells #[a, b] t)).alloc (.cells #[c, d] t); (X.cell? ⟨v.heap.size, 0, none⟩ = some a ∧ X.cell? ⟨v.heap.size, 1, none⟩ = some b) ∧ (X.cell? ⟨v.heap.size + 1, 0, none⟩ = some c ∧ X.cell? ⟨v.heap.size + 1, 1, none⟩ = some d) := fun a b c d => by
    have n1 := Own.last (X := v.alloc (.cells #[a, b] t)) (x := c) (y := d) (t := t)
    rw [size_alloc] at n1
    have n0 := (Own.last (X := v) (x := a) (y := b) (t := t)).alloc #[c, d] t
    exact ⟨⟨n0.c0, n0.c1⟩, ⟨n1.c0, n1.c1⟩⟩
  have mm : ∀ (a b c d : Value), Mod [] v ((v.alloc (.cells #[a, b] t)).alloc (.cells #[c, d] t)).drew := fun a b c d => ((far_alloc _ _).far (far_alloc _ _)).drew
  refine ⟨⟨⟨(mm _ _ _ _).cell (by simp) h0, (mm _ _ _ _).cell (by simp) h1, (mm _ _ _ _).cell (by simp) h2, (mm _ _ _ _).cell (by simp) h3⟩, ?_, m.far (mm _ _ _ _)⟩, ⟨⟨(mm _ _ _ _).cell (by simp) h0, (mm _ _ _ _).cell (by simp) h1, (mm _ _ _ _).cell (by simp) h2, (mm _ _ _ _).cell (by simp) h3⟩, ?_, m.far (mm _ _ _ _)⟩⟩
  · obtain ⟨⟨a, b⟩, c, d⟩ := key (.int .i64 x0) (.int .i64 x1) (.int .i64 x2) (.int .i64 x3)
    exact ⟨a, b, c, d⟩
  · obtain ⟨⟨a, b⟩, c, d⟩ := key (.int .i64 x2) (.int .i64 x3) (.int .i64 x0) (.int .i64 x1)
    exact ⟨c, d, a, b⟩
def CutB (W1 : World) (L : Nat) (x0 x1 x2 x3 : Int) (pa pb : Value) (w : World) : Prop := ∃ PA PB : Nat, pa = Pt PA ∧ pb = Pt PB ∧ TwoB W1 L x0 x1 x2 x3 PA PB w
set_option maxHeartbeats 4000000 in
set_option maxRecDepth 100000 in
theorem cells_walk {w : World} (g : Good w) (x0 x1 x2 x3 : Int) (w0 : (Lit.int .i64 x0).wf = true) (w1 : (Lit.int .i64 x1).wf = true) (w2 : (Lit.int .i64 x2).wf = true) (w3 : (Lit.int .i64 x3).wf = true) (op : Int) (wo : (Lit.int .u8 op).wf = true) :
    Calls Tryz.prog 8 #[.agg #[.int .i64 x0, .int .i64 x1, .int .i64 x2, .int .i64 x3], .int .u8 op] w fun e w' => e = .returned (.bool true) ∧ Mod [] w w' := by
  have HI := Lib.hid (And.intro (i64_of_wf w0) (And.intro (i64_of_wf w1) (And.intro (i64_of_wf w2) (i64_of_wf w3))))
  have ho := bounds_u8 wo
  have G := Lib.hid g
  clear g w0 w1 w2 w3 wo
  have hw : wrap64 op = op := by unfold wrap64; omega
  obtain ⟨kk, hkk⟩ : ∃ k, wrap64 (op.tmod 27 + 1) = k := ⟨_, rfl⟩
  obtain ⟨mm, hmm⟩ : ∃ k, wrap64 (op.tmod 8 + 3) = k := ⟨_, rfl⟩
  have hk1 : 1 ≤ kk ∧ kk ≤ 27 := by rw [← hkk, Int.tmod_eq_emod_of_nonneg ho.1]; unfold wrap64; omega
  have hm1 : 3 ≤ mm ∧ mm ≤ 10 := by rw [← hmm, Int.tmod_eq_emod_of_nonneg ho.1]; unfold wrap64; omega
  have hm2 : wrap64 (mm - 1) = mm - 1 := by unfold wrap64; omega
  have hm3 : wrap64 (mm - 1 + 61) = mm + 60 := by unfold wrap64; omega
  have HKM := Lib.hid (And.intro hk1 hm1)
  obtain ⟨L, hL⟩ : ∃ L, L = w.heap.size := ⟨_, rfl⟩
  obtain ⟨W1, hW1⟩ : ∃ V, V = w.alloc (.cells #[.int .i64 x0, .int .i64 x1, .int .i64 x2, .int .i64 x3] 64) := ⟨_, rfl⟩
  have hc : W1.cell? ⟨L, 0, none⟩ = some (.int .i64 x0) ∧ W1.cell? ⟨L, 1, none⟩ = some (.int .i64 x1) ∧ W1.cell? ⟨L, 2, none⟩ = some (.int .i64 x2) ∧ W1.cell? ⟨L, 3, none⟩ = some (.int .i64 x3) := by
    rw [hW1, hL]
    exact ⟨by rw [World.cell?_alloc_new]; rfl, by rw [World.cell?_alloc_new]; rfl, by rw [World.cell?_alloc_new]; rfl, by rw [World.cell?_alloc_new]; rfl⟩
  have HC := Lib.hid hc
  have m1 : Mod [] w W1 := by rw [hW1]; exact far_alloc _ _
  have G1 := Lib.hid (And.intro (G.out.mod m1 (by simp)) m1)
  have hadd : ∀ W, Calls Tryz.prog 35 #[.agg #[.int .i64 x0, .int .i64 x1], .agg #[.int .i64 x2, .int .i64 x3]] W fun e w' => e = .returned (.agg #[.int .i64 (lo (V x0 x1 + V x2 x3)), .int .i64 (hi (V x0 x1 + V x2 x3))]) ∧ Ext W w' := fun W => radd_calls W x0 x1 x2 x3 HI.out.1 HI.out.2.1 HI.out.2.2.1 HI.out.2.2.2 W (Ext.refl W)
  have hru := runs_add x0 x1 x2 x3 HI.out.1 HI.out.2.1 HI.out.2.2.1 HI.out.2.2.2
  obtain ⟨p0, hp0⟩ : ∃ x, x = lo (V x0 x1 + V x2 x3) := ⟨_, rfl⟩
  obtain ⟨p1, hp1⟩ : ∃ x, x = hi (V x0 x1 + V x2 x3) := ⟨_, rfl⟩
  rw [← hp0, ← hp1] at hadd hru
  have HADD := Lib.hid hadd
  have HRU := Lib.hid hru
  have hud : ∀ W, Calls Tryz.prog 36 #[.agg #[.int .i64 x0, .int .i64 x1], .int .i64 x2] W fun e w' => e = .returned (.tuple #[.int .i64 (uR x0 x1 x2), .int .i64 (uQ x0 x1 x2), .int .i64 (uE x0 x1 x2)]) ∧ Ext W w' := fun W => rudiv_calls W x0 x1 x2 HI.out.1 HI.out.2.1 HI.out.2.2.1 W (Ext.refl W)
  have hrd := runs_udiv x0 x1 x2 HI.out.1 HI.out.2.1 HI.out.2.2.1
  generalize uE x0 x1 x2 = ue at *
  generalize uR x0 x1 x2 = ur at *
  generalize uQ x0 x1 x2 = uq at *
  have HUD := Lib.hid hud
  have HRD := Lib.hid hrd
  have hre := fun W => real4 mm x0 x1 hm1 HI.out.1 HI.out.2.1 W
  have hrr := runs_real (mm + 60) x0 x1 (by omega)
  rw [show mm + 60 - 60 = mm by omega] at hrr
  generalize realV mm x0 x1 = rv at *
  have HRE := Lib.hid hre
  have HRR := Lib.hid hrr
  clear hadd hru hp0 hp1 hud hrd hre hrr
  clear ho hk1 hm1 hc m1
  go_enter Tryz.func8, Tryz.ntmps8
  go_upto_region 1 with fail
  rw [← hW1, ← hL]
  clear hW1 hL
  go_wp2_with fail
  refine (shown13 W1 G1.out.1).mono ?_
  rintro e v1 ⟨rfl, m1⟩
  have HM := Lib.hid m1
  have e0 := m1.cell (x := ⟨L, 0, none⟩) (by simp) HC.out.1
  have e1 := m1.cell (x := ⟨L, 1, none⟩) (by simp) HC.out.2.1
  clear m1
  go_wp2_with fail
  refine (L1.one_two_calls kk x0 HI.out.1 _).mono ?_
  rintro e v2 ⟨rfl, rfl⟩
  by_cases h10 : kk ≤ 10
  · have heq : oneE kk = 0 := by unfold oneE; first | (rw [if_pos (by have := HKM.out; omega)]) | (rw [if_neg (by have := HKM.out; omega)])
    have hmany : ∀ W, Calls Tryz.prog 33 #[.int .i64 kk] W fun e w' => e = .returned (.int .i64 1) ∧ W = w' := fun W => by
      have := L1.rmany_calls kk W
      rw [if_pos (by have := HKM.out; omega)] at this
      exact this
    have HMY := Lib.hid hmany
    have hy64 := oneV_i64 kk x0 HI.out.1
    have hrun := runs_one kk x0 (by have := HKM.out; omega) HI.out.1
    generalize oneV kk x0 = y at *
    have HRN := Lib.hid (And.intro hrun hy64)
    clear hmany hrun hy64
    go_wp2_with fail
    refine (crun_calls (G1.out.1.mod (HM.out.far (far_alloc _ _)) (by simp)) kk _ 1 1 [x0] (Just [y] 0) (sl_one _ _ _) rfl (one_in HI.out.1) (by simp) HRN.out.1).mono ?_
    rintro e v3 ⟨C, er, b, c, ⟨rfl, rfl⟩, rfl, hw3, m3⟩
    have HM3 := Lib.hid (And.intro ((HM.out.far (far_alloc _ _)).far m3) hw3)
    clear hw3 m3 HM e0 e1
    have e0 := HM3.out.1.cell (x := ⟨L, 0, none⟩) (by simp) HC.out.1
    have e1 := HM3.out.1.cell (x := ⟨L, 1, none⟩) (by simp) HC.out.2.1
    have e2 := HM3.out.1.cell (x := ⟨L, 2, none⟩) (by simp) HC.out.2.2.1
    have e3 := HM3.out.1.cell (x := ⟨L, 3, none⟩) (by simp) HC.out.2.2.2
    go_wp2_with fail
    refine (HMY.out _).mono ?_
    rintro e v4 ⟨rfl, rfl⟩
    go_wp2_with fail
    refine (same_self (X := [y]) (HM3.out.2.sl.mod (far_alloc _ _) (by simp)) (sl_one _ _ _) rfl rfl (by simp)).mono ?_
    rintro e v5 ⟨rfl, m5⟩
    have HM := Lib.hid ((HM3.out.1.far (far_alloc _ _)).far m5)
    clear m5 HM3 HMY HRN e0 e1 e2 e3
    have e0 := HM.out.cell (x := ⟨L, 0, none⟩) (by simp) HC.out.1
    have e1 := HM.out.cell (x := ⟨L, 1, none⟩) (by simp) HC.out.2.1
    have e2 := HM.out.cell (x := ⟨L, 2, none⟩) (by simp) HC.out.2.2.1
    have e3 := HM.out.cell (x := ⟨L, 3, none⟩) (by simp) HC.out.2.2.2
    have HTB := Lib.hid (two_blocks e0 e1 e2 e3 HM.out 44)
    go_wp2_with fail
    go_cut [12, 13] (fun pa pb wx => CutB W1 L x0 x1 x2 x3 pa pb wx)
    case first =>
      have lt5 : L < v5.heap.size := World.block_lt_of_cell? v5 _ e0
      have ne5 : v5.heap.size ≠ L := by omega
      have ne6 : v5.heap.size + 1 ≠ L := by omega
      clear HM
      go_wp2_with fail
      go_region_held3 (fun W => W.cell? ⟨L, 0, none⟩ = some (.int .i64 x0) ∧ W.cell? ⟨L, 1, none⟩ = some (.int .i64 x1) ∧ W.cell? ⟨L, 2, none⟩ = some (.int .i64 x2) ∧ W.cell? ⟨L, 3, none⟩ = some (.int .i64 x3)) (go_keep) (fail)
      all_goals
        go_wp2_with fail
        go_meet
        first
        | exact ⟨_, _, rfl, rfl, HTB.out.1⟩
        | exact ⟨_, _, rfl, rfl, HTB.out.2⟩
    case rest =>
      obtain ⟨PA, PB, rfl, rfl, htb⟩ := hcut
      have HT := Lib.hid htb
      clear htb HTB HM e0 e1 e2 e3
      have e0 := HT.out.1.1
      have e1 := HT.out.1.2.1
      have e2 := HT.out.1.2.2.1
      have e3 := HT.out.1.2.2.2
      have q0 := HT.out.2.1.1
      have q1 := HT.out.2.1.2.1
      have q2 := HT.out.2.1.2.2.1
      have q3 := HT.out.2.1.2.2.2
      have lL := World.block_lt_of_cell? _ _ e0
      have lA := World.block_lt_of_cell? _ _ q0
      have lB := World.block_lt_of_cell? _ _ q2
      go_wp2_with fail
      refine (crun_calls (G1.out.1.mod HT.out.2.2 (by simp)) 44 _ 4 4 [x0, x1, x2, x3] (Just [p0, p1] 0) (sl_four e0 e1 e2 e3) rfl (four_in HI.out.1 HI.out.2.1 HI.out.2.2.1 HI.out.2.2.2) (by simp) HRU.out).mono ?_
      rintro e v6 ⟨C6, er6, b1, c1, ⟨rfl, rfl⟩, rfl, hw6, m6⟩
      have HW := Lib.hid hw6
      have HT2 := Lib.hid (HT.out.far m6)
      clear hw6 m6 e0 e1 e2 e3 q0 q1 q2 q3 lL lA lB HT
      have HT := HT2
      clear HT2
      have e0 := HT.out.1.1
      have e1 := HT.out.1.2.1
      have e2 := HT.out.1.2.2.1
      have e3 := HT.out.1.2.2.2
      have q0 := HT.out.2.1.1
      have q1 := HT.out.2.1.2.1
      have q2 := HT.out.2.1.2.2.1
      have q3 := HT.out.2.1.2.2.2
      have lL := World.block_lt_of_cell? _ _ e0
      have lA := World.block_lt_of_cell? _ _ q0
      have lB := World.block_lt_of_cell? _ _ q2
      go_wp2_with fail
      refine (HADD.out _).mono ?_
      rintro e v7 ⟨rfl, hx7⟩
      have HW2 := Lib.hid (HW.out.mod (Mod.of_below hx7.1) (by simp))
      have HT2 := Lib.hid (HT.out.far (Mod.of_below hx7.1))
      clear hx7 e0 e1 e2 e3 q0 q1 q2 q3 lL lA lB HT HW
      have HT := HT2
      have HW := HW2
      clear HT2 HW2
      have e0 := HT.out.1.1
      have e1 := HT.out.1.2.1
      have e2 := HT.out.1.2.2.1
      have e3 := HT.out.1.2.2.2
      have q0 := HT.out.2.1.1
      have q1 := HT.out.2.1.2.1
      have q2 := HT.out.2.1.2.2.1
      have q3 := HT.out.2.1.2.2.2
      have lL := World.block_lt_of_cell? _ _ e0
      have lA := World.block_lt_of_cell? _ _ q0
      have lB := World.block_lt_of_cell? _ _ q2
      go_wp2_with fail
      refine (HUD.out _).mono ?_
      rintro e v8 ⟨rfl, hx8⟩
      have m8 : Mod [] v7 v8 := (far_alloc v7 (.cells #[.int .i64 p0, .int .i64 p1] 44)).far (Mod.of_below hx8.1)
      have oP := (Own.last (X := v7) (x := .int .i64 p0) (y := .int .i64 p1) (t := 44)).ext hx8
      have HPP := Lib.hid (And.intro oP.c0 oP.c1)
      have HW2 := Lib.hid (HW.out.mod m8 (by simp))
      have HT2 := Lib.hid (HT.out.far m8)
      clear hx8 e0 e1 e2 e3 q0 q1 q2 q3 lL lA lB HT HW oP
      obtain ⟨P, hP⟩ : ∃ P, P = v7.heap.size := ⟨_, rfl⟩
      rw [← hP] at HPP
      rw [← hP]
      have HPN := Lib.hid hP
      clear hP m8
      have HT := HT2
      have HW := HW2
      clear HT2 HW2
      have e0 := HT.out.1.1
      have e1 := HT.out.1.2.1
      have e2 := HT.out.1.2.2.1
      have e3 := HT.out.1.2.2.2
      have q0 := HT.out.2.1.1
      have q1 := HT.out.2.1.2.1
      have q2 := HT.out.2.1.2.2.1
      have q3 := HT.out.2.1.2.2.2
      have lL := World.block_lt_of_cell? _ _ e0
      have lA := World.block_lt_of_cell? _ _ q0
      have lB := World.block_lt_of_cell? _ _ q2
      have s0 := HPP.out.1
      have s1 := HPP.out.2
      have lP := World.block_lt_of_cell? _ _ s0
      go_wp2_with fail
      refine (crun_calls (G1.out.1.mod (HT.out.2.2.far (far_alloc _ _)) (by simp)) 55 _ 3 3 [x0, x1, x2] _ (sl_three _ _ _ _ _) rfl (three_in HI.out.1 HI.out.2.1 HI.out.2.2.1) (by simp) HRD.out).mono ?_
      rintro e v9 ⟨C9, er9, b2, c2, ⟨rfl, hC9⟩, rfl, hw9, m9⟩
      have m9' := (far_alloc v8 (.cells #[.int .i64 x0, .int .i64 x1, .int .i64 x2] 37)).far m9
      have HW2 := Lib.hid (And.intro (HW.out.mod m9' (by simp)) hw9)
      have HT2 := Lib.hid (HT.out.far m9')
      have HPP2 := Lib.hid (And.intro (m9'.cell (by simp) HPP.out.1) (m9'.cell (by simp) HPP.out.2))
      clear e0 e1 e2 e3 q0 q1 q2 q3 lL lA lB HT HW HPP s0 s1 lP m9 m9' hw9
      have HT := HT2
      have HW := HW2
      have HPP := HPP2
      clear HT2 HW2 HPP2
      have e0 := HT.out.1.1
      have e1 := HT.out.1.2.1
      have e2 := HT.out.1.2.2.1
      have e3 := HT.out.1.2.2.2
      have q0 := HT.out.2.1.1
      have q1 := HT.out.2.1.2.1
      have q2 := HT.out.2.1.2.2.1
      have q3 := HT.out.2.1.2.2.2
      have lL := World.block_lt_of_cell? _ _ e0
      have lA := World.block_lt_of_cell? _ _ q0
      have lB := World.block_lt_of_cell? _ _ q2
      have s0 := HPP.out.1
      have s1 := HPP.out.2
      have lP := World.block_lt_of_cell? _ _ s0
      by_cases hue : er9 = 0
      · obtain rfl := hC9 hue
        have u1 : (er9 == 0) = true := beq_iff_eq.2 hue
        have u2 : (er9 != er9) = false := bne_self_eq_false _
        clear hue hC9
        go_wp2_with fail
        refine (same_self (X := [p0, p1]) (HW.out.1.sl.mod (far_alloc _ _) (by simp)) (sl_two _ _ _ _) rfl rfl (by simp)).mono ?_
        rintro e v10 ⟨rfl, m10⟩
        have n10 := (far_alloc v9 (.cells #[.int .i64 p0, .int .i64 p1] 37)).far m10
        have HD2 := Lib.hid (HW.out.2.mod n10 (by simp))
        have HT2 := Lib.hid (HT.out.far n10)
        clear m10 s0 s1 lP HPP HW
        clear e0 e1 e2 e3 q0 q1 q2 q3 lL lA lB HT n10
        have HT := HT2
        clear HT2
        have e0 := HT.out.1.1
        have e1 := HT.out.1.2.1
        have e2 := HT.out.1.2.2.1
        have e3 := HT.out.1.2.2.2
        have q0 := HT.out.2.1.1
        have q1 := HT.out.2.1.2.1
        have q2 := HT.out.2.1.2.2.1
        have q3 := HT.out.2.1.2.2.2
        have lL := World.block_lt_of_cell? _ _ e0
        have lA := World.block_lt_of_cell? _ _ q0
        have lB := World.block_lt_of_cell? _ _ q2
        go_wp2_with fail
        refine (same_self (X := [ur, uq]) (HD2.out.sl.mod (far_alloc _ _) (by simp)) (sl_two _ _ _ _) rfl rfl (by simp)).mono ?_
        rintro e v11 ⟨rfl, m11⟩
        have n11 := (far_alloc v10 (.cells #[.int .i64 ur, .int .i64 uq] 37)).far m11
        have HT2 := Lib.hid (HT.out.far n11)
        clear m11 HD2
        clear e0 e1 e2 e3 q0 q1 q2 q3 lL lA lB HT n11
        have HT := HT2
        clear HT2
        have e0 := HT.out.1.1
        have e1 := HT.out.1.2.1
        have e2 := HT.out.1.2.2.1
        have e3 := HT.out.1.2.2.2
        have q0 := HT.out.2.1.1
        have q1 := HT.out.2.1.2.1
        have q2 := HT.out.2.1.2.2.1
        have q3 := HT.out.2.1.2.2.2
        have lL := World.block_lt_of_cell? _ _ e0
        have lA := World.block_lt_of_cell? _ _ q0
        have lB := World.block_lt_of_cell? _ _ q2
        go_wp2_with fail
        refine (HRE.out _).mono ?_
        rintro e v12 ⟨rfl, hx12⟩
        have n12 := Mod.of_below hx12.1
        clear hx12
        have HT2 := Lib.hid (HT.out.far n12)
        clear e0 e1 e2 e3 q0 q1 q2 q3 lL lA lB HT n12
        have HT := HT2
        clear HT2
        have e0 := HT.out.1.1
        have e1 := HT.out.1.2.1
        have e2 := HT.out.1.2.2.1
        have e3 := HT.out.1.2.2.2
        have q0 := HT.out.2.1.1
        have q1 := HT.out.2.1.2.1
        have q2 := HT.out.2.1.2.2.1
        have q3 := HT.out.2.1.2.2.2
        have lL := World.block_lt_of_cell? _ _ e0
        have lA := World.block_lt_of_cell? _ _ q0
        have lB := World.block_lt_of_cell? _ _ q2
        go_wp2_with fail
        refine (crun_calls (G1.out.1.mod (HT.out.2.2.far (far_alloc _ _)) (by simp)) (mm + 60) _ 2 2 [x0, x1] (Just [rv] 0) (sl_two _ _ _ _) rfl (two_in HI.out.1 HI.out.2.1) (by simp) HRR.out).mono ?_
        rintro e v13 ⟨C13, er13, b3, c3, ⟨rfl, rfl⟩, rfl, hw13, m13⟩
        have HZ := Lib.hid (And.intro hw13 ((HT.out.2.2.far (far_alloc v12 (.cells #[.int .i64 x0, .int .i64 x1] 37))).far m13))
        clear hw13 m13 e0 e1 e2 e3 q0 q1 q2 q3 lL lA lB HT
        go_wp2_with fail
        refine (same_self (X := [rv]) (HZ.out.1.sl.mod (far_alloc _ _) (by simp)) (sl_one _ _ _) rfl rfl (by simp)).mono ?_
        rintro e v14 ⟨rfl, m14⟩
        go_wp2
        go_ret
        exact ⟨rfl, G1.out.2.far ((HZ.out.2.far (far_alloc v13 (.cells #[.int .i64 rv] 37))).far m14)⟩
      · have u1 : (er9 == 0) = false := beq_eq_false_iff_ne.2 hue
        have u2 : (er9 != er9) = false := bne_self_eq_false _
        clear hue hC9
        go_wp2_with fail
        refine (same_self (X := [p0, p1]) (HW.out.1.sl.mod (far_alloc _ _) (by simp)) (sl_two _ _ _ _) rfl rfl (by simp)).mono ?_
        rintro e v10 ⟨rfl, m10⟩
        have n10 := (far_alloc v9 (.cells #[.int .i64 p0, .int .i64 p1] 37)).far m10
        have HT2 := Lib.hid (HT.out.far n10)
        clear m10 s0 s1 lP HPP HW
        clear e0 e1 e2 e3 q0 q1 q2 q3 lL lA lB HT n10
        have HT := HT2
        clear HT2
        have e0 := HT.out.1.1
        have e1 := HT.out.1.2.1
        have e2 := HT.out.1.2.2.1
        have e3 := HT.out.1.2.2.2
        have q0 := HT.out.2.1.1
        have q1 := HT.out.2.1.2.1
        have q2 := HT.out.2.1.2.2.1
        have q3 := HT.out.2.1.2.2.2
        have lL := World.block_lt_of_cell? _ _ e0
        have lA := World.block_lt_of_cell? _ _ q0
        have lB := World.block_lt_of_cell? _ _ q2
        go_wp2_with fail
        refine (HRE.out _).mono ?_
        rintro e v12 ⟨rfl, hx12⟩
        have n12 := Mod.of_below hx12.1
        clear hx12
        have HT2 := Lib.hid (HT.out.far n12)
        clear e0 e1 e2 e3 q0 q1 q2 q3 lL lA lB HT n12
        have HT := HT2
        clear HT2
        have e0 := HT.out.1.1
        have e1 := HT.out.1.2.1
        have e2 := HT.out.1.2.2.1
        have e3 := HT.out.1.2.2.2
        have q0 := HT.out.2.1.1
        have q1 := HT.out.2.1.2.1
        have q2 := HT.out.2.1.2.2.1
        have q3 := HT.out.2.1.2.2.2
        have lL := World.block_lt_of_cell? _ _ e0
        have lA := World.block_lt_of_cell? _ _ q0
        have lB := World.block_lt_of_cell? _ _ q2
        go_wp2_with fail
        refine (crun_calls (G1.out.1.mod (HT.out.2.2.far (far_alloc _ _)) (by simp)) (mm + 60) _ 2 2 [x0, x1] (Just [rv] 0) (sl_two _ _ _ _) rfl (two_in HI.out.1 HI.out.2.1) (by simp) HRR.out).mono ?_
        rintro e v13 ⟨C13, er13, b3, c3, ⟨rfl, rfl⟩, rfl, hw13, m13⟩
        have HZ := Lib.hid (And.intro hw13 ((HT.out.2.2.far (far_alloc v12 (.cells #[.int .i64 x0, .int .i64 x1] 37))).far m13))
        clear hw13 m13 e0 e1 e2 e3 q0 q1 q2 q3 lL lA lB HT
        go_wp2_with fail
        refine (same_self (X := [rv]) (HZ.out.1.sl.mod (far_alloc _ _) (by simp)) (sl_one _ _ _) rfl rfl (by simp)).mono ?_
        rintro e v14 ⟨rfl, m14⟩
        go_wp2
        go_ret
        exact ⟨rfl, G1.out.2.far ((HZ.out.2.far (far_alloc v13 (.cells #[.int .i64 rv] 37))).far m14)⟩
  · have hk11 : 11 ≤ kk ∧ kk ≤ 27 := by have := HKM.out; omega
    have hmany : ∀ W, Calls Tryz.prog 33 #[.int .i64 kk] W fun e w' => e = .returned (.int .i64 2) ∧ W = w' := fun W => by
      have := L1.rmany_calls kk W
      rw [if_neg (by omega), if_pos (by omega)] at this
      exact this
    have HMY := Lib.hid hmany
    have htwo := fun W => L1.rtwo_calls kk x0 x1 HI.out.1 HI.out.2.1 W
    have hrun := runs_two kk x0 x1 hk11 HI.out.1 HI.out.2.1
    generalize twoV kk x0 x1 = y at *
    generalize twoE kk x1 = te at *
    have HTW := Lib.hid htwo
    have HRN := Lib.hid hrun
    have HRA := Lib.hid (runs_any kk x0)
    clear hmany htwo hrun hk11
    go_wp2_with fail
    refine (crun_calls (G1.out.1.mod (HM.out.far (far_alloc _ _)) (by simp)) kk _ 1 1 [x0] _ (sl_one _ _ _) rfl (one_in HI.out.1) (by simp) HRA.out).mono ?_
    rintro e v3 ⟨C3, er3, b3, c3, _, rfl, hw3, m3⟩
    have HM3 := Lib.hid ((HM.out.far (far_alloc v1 (.cells #[.int .i64 x0] 37))).far m3)
    clear hw3 m3 HM e0 e1
    have HM := HM3
    clear HM3
    have e0 := HM.out.cell (x := ⟨L, 0, none⟩) (by simp) HC.out.1
    have e1 := HM.out.cell (x := ⟨L, 1, none⟩) (by simp) HC.out.2.1
    have e2 := HM.out.cell (x := ⟨L, 2, none⟩) (by simp) HC.out.2.2.1
    have e3 := HM.out.cell (x := ⟨L, 3, none⟩) (by simp) HC.out.2.2.2
    go_wp2_with fail
    refine (HMY.out _).mono ?_
    rintro e v4 ⟨rfl, rfl⟩
    go_wp2_with fail
    refine (HTW.out _).mono ?_
    rintro e v4 ⟨rfl, rfl⟩
    go_wp2_with fail
    refine (crun_calls (G1.out.1.mod (HM.out.far (far_alloc _ _)) (by simp)) kk _ 2 2 [x0, x1] _ (sl_two _ _ _ _) rfl (two_in HI.out.1 HI.out.2.1) (by simp) HRN.out).mono ?_
    rintro e v4 ⟨C4, er4, b, c, ⟨rfl, hC4⟩, rfl, hw4, m4⟩
    have HM3 := Lib.hid (And.intro ((HM.out.far (far_alloc v3 (.cells #[.int .i64 x0, .int .i64 x1] 37))).far m4) hw4)
    clear hw4 m4 HM e0 e1 e2 e3 HMY HTW HRN HRA
    have u2 : (er4 != er4) = false := bne_self_eq_false _
    by_cases hte : er4 = 0
    · obtain rfl := hC4 hte
      have u1 : (er4 == 0) = true := beq_iff_eq.2 hte
      clear hte hC4
      have HM := Lib.hid HM3.out.1
      have e0 := HM.out.cell (x := ⟨L, 0, none⟩) (by simp) HC.out.1
      have e1 := HM.out.cell (x := ⟨L, 1, none⟩) (by simp) HC.out.2.1
      have e2 := HM.out.cell (x := ⟨L, 2, none⟩) (by simp) HC.out.2.2.1
      have e3 := HM.out.cell (x := ⟨L, 3, none⟩) (by simp) HC.out.2.2.2
      go_wp2_with fail
      refine (same_self (X := [y]) (HM3.out.2.sl.mod (far_alloc _ _) (by simp)) (sl_one _ _ _) rfl rfl (by simp)).mono ?_
      rintro e v5 ⟨rfl, m5⟩
      have HM2 := Lib.hid ((HM3.out.1.far (far_alloc v4 (.cells #[.int .i64 y] 37))).far m5)
      clear m5 HM3 HM e0 e1 e2 e3
      have HM := HM2
      clear HM2
      have e0 := HM.out.cell (x := ⟨L, 0, none⟩) (by simp) HC.out.1
      have e1 := HM.out.cell (x := ⟨L, 1, none⟩) (by simp) HC.out.2.1
      have e2 := HM.out.cell (x := ⟨L, 2, none⟩) (by simp) HC.out.2.2.1
      have e3 := HM.out.cell (x := ⟨L, 3, none⟩) (by simp) HC.out.2.2.2
      have HTB := Lib.hid (two_blocks e0 e1 e2 e3 HM.out 44)
      go_wp2_with fail
      go_cut [12, 13] (fun pa pb wx => CutB W1 L x0 x1 x2 x3 pa pb wx)
      case first =>
        have lt5 : L < v5.heap.size := World.block_lt_of_cell? v5 _ e0
        have ne5 : v5.heap.size ≠ L := by omega
        have ne6 : v5.heap.size + 1 ≠ L := by omega
        clear HM
        go_wp2_with fail
        go_region_held3 (fun W => W.cell? ⟨L, 0, none⟩ = some (.int .i64 x0) ∧ W.cell? ⟨L, 1, none⟩ = some (.int .i64 x1) ∧ W.cell? ⟨L, 2, none⟩ = some (.int .i64 x2) ∧ W.cell? ⟨L, 3, none⟩ = some (.int .i64 x3)) (go_keep) (fail)
        all_goals
          go_wp2_with fail
          go_meet
          first
          | exact ⟨_, _, rfl, rfl, HTB.out.1⟩
          | exact ⟨_, _, rfl, rfl, HTB.out.2⟩
      case rest =>
        obtain ⟨PA, PB, rfl, rfl, htb⟩ := hcut
        have HT := Lib.hid htb
        clear htb HTB HM e0 e1 e2 e3
        have e0 := HT.out.1.1
        have e1 := HT.out.1.2.1
        have e2 := HT.out.1.2.2.1
        have e3 := HT.out.1.2.2.2
        have q0 := HT.out.2.1.1
        have q1 := HT.out.2.1.2.1
        have q2 := HT.out.2.1.2.2.1
        have q3 := HT.out.2.1.2.2.2
        have lL := World.block_lt_of_cell? _ _ e0
        have lA := World.block_lt_of_cell? _ _ q0
        have lB := World.block_lt_of_cell? _ _ q2
        go_wp2_with fail
        refine (crun_calls (G1.out.1.mod HT.out.2.2 (by simp)) 44 _ 4 4 [x0, x1, x2, x3] (Just [p0, p1] 0) (sl_four e0 e1 e2 e3) rfl (four_in HI.out.1 HI.out.2.1 HI.out.2.2.1 HI.out.2.2.2) (by simp) HRU.out).mono ?_
        rintro e v6 ⟨C6, er6, b1, c1, ⟨rfl, rfl⟩, rfl, hw6, m6⟩
        have HW := Lib.hid hw6
        have HT2 := Lib.hid (HT.out.far m6)
        clear hw6 m6 e0 e1 e2 e3 q0 q1 q2 q3 lL lA lB HT
        have HT := HT2
        clear HT2
        have e0 := HT.out.1.1
        have e1 := HT.out.1.2.1
        have e2 := HT.out.1.2.2.1
        have e3 := HT.out.1.2.2.2
        have q0 := HT.out.2.1.1
        have q1 := HT.out.2.1.2.1
        have q2 := HT.out.2.1.2.2.1
        have q3 := HT.out.2.1.2.2.2
        have lL := World.block_lt_of_cell? _ _ e0
        have lA := World.block_lt_of_cell? _ _ q0
        have lB := World.block_lt_of_cell? _ _ q2
        go_wp2_with fail
        refine (HADD.out _).mono ?_
        rintro e v7 ⟨rfl, hx7⟩
        have HW2 := Lib.hid (HW.out.mod (Mod.of_below hx7.1) (by simp))
        have HT2 := Lib.hid (HT.out.far (Mod.of_below hx7.1))
        clear hx7 e0 e1 e2 e3 q0 q1 q2 q3 lL lA lB HT HW
        have HT := HT2
        have HW := HW2
        clear HT2 HW2
        have e0 := HT.out.1.1
        have e1 := HT.out.1.2.1
        have e2 := HT.out.1.2.2.1
        have e3 := HT.out.1.2.2.2
        have q0 := HT.out.2.1.1
        have q1 := HT.out.2.1.2.1
        have q2 := HT.out.2.1.2.2.1
        have q3 := HT.out.2.1.2.2.2
        have lL := World.block_lt_of_cell? _ _ e0
        have lA := World.block_lt_of_cell? _ _ q0
        have lB := World.block_lt_of_cell? _ _ q2
        go_wp2_with fail
        refine (HUD.out _).mono ?_
        rintro e v8 ⟨rfl, hx8⟩
        have m8 : Mod [] v7 v8 := (far_alloc v7 (.cells #[.int .i64 p0, .int .i64 p1] 44)).far (Mod.of_below hx8.1)
        have oP := (Own.last (X := v7) (x := .int .i64 p0) (y := .int .i64 p1) (t := 44)).ext hx8
        have HPP := Lib.hid (And.intro oP.c0 oP.c1)
        have HW2 := Lib.hid (HW.out.mod m8 (by simp))
        have HT2 := Lib.hid (HT.out.far m8)
        clear hx8 e0 e1 e2 e3 q0 q1 q2 q3 lL lA lB HT HW oP
        obtain ⟨P, hP⟩ : ∃ P, P = v7.heap.size := ⟨_, rfl⟩
        rw [← hP] at HPP
        rw [← hP]
        have HPN := Lib.hid hP
        clear hP m8
        have HT := HT2
        have HW := HW2
        clear HT2 HW2
        have e0 := HT.out.1.1
        have e1 := HT.out.1.2.1
        have e2 := HT.out.1.2.2.1
        have e3 := HT.out.1.2.2.2
        have q0 := HT.out.2.1.1
        have q1 := HT.out.2.1.2.1
        have q2 := HT.out.2.1.2.2.1
        have q3 := HT.out.2.1.2.2.2
        have lL := World.block_lt_of_cell? _ _ e0
        have lA := World.block_lt_of_cell? _ _ q0
        have lB := World.block_lt_of_cell? _ _ q2
        have s0 := HPP.out.1
        have s1 := HPP.out.2
        have lP := World.block_lt_of_cell? _ _ s0
        go_wp2_with fail
        refine (crun_calls (G1.out.1.mod (HT.out.2.2.far (far_alloc _ _)) (by simp)) 55 _ 3 3 [x0, x1, x2] _ (sl_three _ _ _ _ _) rfl (three_in HI.out.1 HI.out.2.1 HI.out.2.2.1) (by simp) HRD.out).mono ?_
        rintro e v9 ⟨C9, er9, b2, c2, ⟨rfl, hC9⟩, rfl, hw9, m9⟩
        have m9' := (far_alloc v8 (.cells #[.int .i64 x0, .int .i64 x1, .int .i64 x2] 37)).far m9
        have HW2 := Lib.hid (And.intro (HW.out.mod m9' (by simp)) hw9)
        have HT2 := Lib.hid (HT.out.far m9')
        have HPP2 := Lib.hid (And.intro (m9'.cell (by simp) HPP.out.1) (m9'.cell (by simp) HPP.out.2))
        clear e0 e1 e2 e3 q0 q1 q2 q3 lL lA lB HT HW HPP s0 s1 lP m9 m9' hw9
        have HT := HT2
        have HW := HW2
        have HPP := HPP2
        clear HT2 HW2 HPP2
        have e0 := HT.out.1.1
        have e1 := HT.out.1.2.1
        have e2 := HT.out.1.2.2.1
        have e3 := HT.out.1.2.2.2
        have q0 := HT.out.2.1.1
        have q1 := HT.out.2.1.2.1
        have q2 := HT.out.2.1.2.2.1
        have q3 := HT.out.2.1.2.2.2
        have lL := World.block_lt_of_cell? _ _ e0
        have lA := World.block_lt_of_cell? _ _ q0
        have lB := World.block_lt_of_cell? _ _ q2
        have s0 := HPP.out.1
        have s1 := HPP.out.2
        have lP := World.block_lt_of_cell? _ _ s0
        by_cases hue : er9 = 0
        · obtain rfl := hC9 hue
          have u1 : (er9 == 0) = true := beq_iff_eq.2 hue
          have u2 : (er9 != er9) = false := bne_self_eq_false _
          clear hue hC9
          go_wp2_with fail
          refine (same_self (X := [p0, p1]) (HW.out.1.sl.mod (far_alloc _ _) (by simp)) (sl_two _ _ _ _) rfl rfl (by simp)).mono ?_
          rintro e v10 ⟨rfl, m10⟩
          have n10 := (far_alloc v9 (.cells #[.int .i64 p0, .int .i64 p1] 37)).far m10
          have HD2 := Lib.hid (HW.out.2.mod n10 (by simp))
          have HT2 := Lib.hid (HT.out.far n10)
          clear m10 s0 s1 lP HPP HW
          clear e0 e1 e2 e3 q0 q1 q2 q3 lL lA lB HT n10
          have HT := HT2
          clear HT2
          have e0 := HT.out.1.1
          have e1 := HT.out.1.2.1
          have e2 := HT.out.1.2.2.1
          have e3 := HT.out.1.2.2.2
          have q0 := HT.out.2.1.1
          have q1 := HT.out.2.1.2.1
          have q2 := HT.out.2.1.2.2.1
          have q3 := HT.out.2.1.2.2.2
          have lL := World.block_lt_of_cell? _ _ e0
          have lA := World.block_lt_of_cell? _ _ q0
          have lB := World.block_lt_of_cell? _ _ q2
          go_wp2_with fail
          refine (same_self (X := [ur, uq]) (HD2.out.sl.mod (far_alloc _ _) (by simp)) (sl_two _ _ _ _) rfl rfl (by simp)).mono ?_
          rintro e v11 ⟨rfl, m11⟩
          have n11 := (far_alloc v10 (.cells #[.int .i64 ur, .int .i64 uq] 37)).far m11
          have HT2 := Lib.hid (HT.out.far n11)
          clear m11 HD2
          clear e0 e1 e2 e3 q0 q1 q2 q3 lL lA lB HT n11
          have HT := HT2
          clear HT2
          have e0 := HT.out.1.1
          have e1 := HT.out.1.2.1
          have e2 := HT.out.1.2.2.1
          have e3 := HT.out.1.2.2.2
          have q0 := HT.out.2.1.1
          have q1 := HT.out.2.1.2.1
          have q2 := HT.out.2.1.2.2.1
          have q3 := HT.out.2.1.2.2.2
          have lL := World.block_lt_of_cell? _ _ e0
          have lA := World.block_lt_of_cell? _ _ q0
          have lB := World.block_lt_of_cell? _ _ q2
          go_wp2_with fail
          refine (HRE.out _).mono ?_
          rintro e v12 ⟨rfl, hx12⟩
          have n12 := Mod.of_below hx12.1
          clear hx12
          have HT2 := Lib.hid (HT.out.far n12)
          clear e0 e1 e2 e3 q0 q1 q2 q3 lL lA lB HT n12
          have HT := HT2
          clear HT2
          have e0 := HT.out.1.1
          have e1 := HT.out.1.2.1
          have e2 := HT.out.1.2.2.1
          have e3 := HT.out.1.2.2.2
          have q0 := HT.out.2.1.1
          have q1 := HT.out.2.1.2.1
          have q2 := HT.out.2.1.2.2.1
          have q3 := HT.out.2.1.2.2.2
          have lL := World.block_lt_of_cell? _ _ e0
          have lA := World.block_lt_of_cell? _ _ q0
          have lB := World.block_lt_of_cell? _ _ q2
          go_wp2_with fail
          refine (crun_calls (G1.out.1.mod (HT.out.2.2.far (far_alloc _ _)) (by simp)) (mm + 60) _ 2 2 [x0, x1] (Just [rv] 0) (sl_two _ _ _ _) rfl (two_in HI.out.1 HI.out.2.1) (by simp) HRR.out).mono ?_
          rintro e v13 ⟨C13, er13, b3, c3, ⟨rfl, rfl⟩, rfl, hw13, m13⟩
          have HZ := Lib.hid (And.intro hw13 ((HT.out.2.2.far (far_alloc v12 (.cells #[.int .i64 x0, .int .i64 x1] 37))).far m13))
          clear hw13 m13 e0 e1 e2 e3 q0 q1 q2 q3 lL lA lB HT
          go_wp2_with fail
          refine (same_self (X := [rv]) (HZ.out.1.sl.mod (far_alloc _ _) (by simp)) (sl_one _ _ _) rfl rfl (by simp)).mono ?_
          rintro e v14 ⟨rfl, m14⟩
          go_wp2
          go_ret
          exact ⟨rfl, G1.out.2.far ((HZ.out.2.far (far_alloc v13 (.cells #[.int .i64 rv] 37))).far m14)⟩
        · have u1 : (er9 == 0) = false := beq_eq_false_iff_ne.2 hue
          have u2 : (er9 != er9) = false := bne_self_eq_false _
          clear hue hC9
          go_wp2_with fail
          refine (same_self (X := [p0, p1]) (HW.out.1.sl.mod (far_alloc _ _) (by simp)) (sl_two _ _ _ _) rfl rfl (by simp)).mono ?_
          rintro e v10 ⟨rfl, m10⟩
          have n10 := (far_alloc v9 (.cells #[.int .i64 p0, .int .i64 p1] 37)).far m10
          have HT2 := Lib.hid (HT.out.far n10)
          clear m10 s0 s1 lP HPP HW
          clear e0 e1 e2 e3 q0 q1 q2 q3 lL lA lB HT n10
          have HT := HT2
          clear HT2
          have e0 := HT.out.1.1
          have e1 := HT.out.1.2.1
          have e2 := HT.out.1.2.2.1
          have e3 := HT.out.1.2.2.2
          have q0 := HT.out.2.1.1
          have q1 := HT.out.2.1.2.1
          have q2 := HT.out.2.1.2.2.1
          have q3 := HT.out.2.1.2.2.2
          have lL := World.block_lt_of_cell? _ _ e0
          have lA := World.block_lt_of_cell? _ _ q0
          have lB := World.block_lt_of_cell? _ _ q2
          go_wp2_with fail
          refine (HRE.out _).mono ?_
          rintro e v12 ⟨rfl, hx12⟩
          have n12 := Mod.of_below hx12.1
          clear hx12
          have HT2 := Lib.hid (HT.out.far n12)
          clear e0 e1 e2 e3 q0 q1 q2 q3 lL lA lB HT n12
          have HT := HT2
          clear HT2
          have e0 := HT.out.1.1
          have e1 := HT.out.1.2.1
          have e2 := HT.out.1.2.2.1
          have e3 := HT.out.1.2.2.2
          have q0 := HT.out.2.1.1
          have q1 := HT.out.2.1.2.1
          have q2 := HT.out.2.1.2.2.1
          have q3 := HT.out.2.1.2.2.2
          have lL := World.block_lt_of_cell? _ _ e0
          have lA := World.block_lt_of_cell? _ _ q0
          have lB := World.block_lt_of_cell? _ _ q2
          go_wp2_with fail
          refine (crun_calls (G1.out.1.mod (HT.out.2.2.far (far_alloc _ _)) (by simp)) (mm + 60) _ 2 2 [x0, x1] (Just [rv] 0) (sl_two _ _ _ _) rfl (two_in HI.out.1 HI.out.2.1) (by simp) HRR.out).mono ?_
          rintro e v13 ⟨C13, er13, b3, c3, ⟨rfl, rfl⟩, rfl, hw13, m13⟩
          have HZ := Lib.hid (And.intro hw13 ((HT.out.2.2.far (far_alloc v12 (.cells #[.int .i64 x0, .int .i64 x1] 37))).far m13))
          clear hw13 m13 e0 e1 e2 e3 q0 q1 q2 q3 lL lA lB HT
          go_wp2_with fail
          refine (same_self (X := [rv]) (HZ.out.1.sl.mod (far_alloc _ _) (by simp)) (sl_one _ _ _) rfl rfl (by simp)).mono ?_
          rintro e v14 ⟨rfl, m14⟩
          go_wp2
          go_ret
          exact ⟨rfl, G1.out.2.far ((HZ.out.2.far (far_alloc v13 (.cells #[.int .i64 rv] 37))).far m14)⟩
    · have u1 : (er4 == 0) = false := beq_eq_false_iff_ne.2 hte
      clear hte hC4
      have HM := Lib.hid HM3.out.1
      clear HM3
      have e0 := HM.out.cell (x := ⟨L, 0, none⟩) (by simp) HC.out.1
      have e1 := HM.out.cell (x := ⟨L, 1, none⟩) (by simp) HC.out.2.1
      have e2 := HM.out.cell (x := ⟨L, 2, none⟩) (by simp) HC.out.2.2.1
      have e3 := HM.out.cell (x := ⟨L, 3, none⟩) (by simp) HC.out.2.2.2
      have HTB := Lib.hid (two_blocks e0 e1 e2 e3 HM.out 44)
      go_wp2_with fail
      go_cut [12, 13] (fun pa pb wx => CutB W1 L x0 x1 x2 x3 pa pb wx)
      case first =>
        have lt5 : L < v4.heap.size := World.block_lt_of_cell? v4 _ e0
        have ne5 : v4.heap.size ≠ L := by omega
        have ne6 : v4.heap.size + 1 ≠ L := by omega
        clear HM
        go_wp2_with fail
        go_region_held3 (fun W => W.cell? ⟨L, 0, none⟩ = some (.int .i64 x0) ∧ W.cell? ⟨L, 1, none⟩ = some (.int .i64 x1) ∧ W.cell? ⟨L, 2, none⟩ = some (.int .i64 x2) ∧ W.cell? ⟨L, 3, none⟩ = some (.int .i64 x3)) (go_keep) (fail)
        all_goals
          go_wp2_with fail
          go_meet
          first
          | exact ⟨_, _, rfl, rfl, HTB.out.1⟩
          | exact ⟨_, _, rfl, rfl, HTB.out.2⟩
      case rest =>
        obtain ⟨PA, PB, rfl, rfl, htb⟩ := hcut
        have HT := Lib.hid htb
        clear htb HTB HM e0 e1 e2 e3
        have e0 := HT.out.1.1
        have e1 := HT.out.1.2.1
        have e2 := HT.out.1.2.2.1
        have e3 := HT.out.1.2.2.2
        have q0 := HT.out.2.1.1
        have q1 := HT.out.2.1.2.1
        have q2 := HT.out.2.1.2.2.1
        have q3 := HT.out.2.1.2.2.2
        have lL := World.block_lt_of_cell? _ _ e0
        have lA := World.block_lt_of_cell? _ _ q0
        have lB := World.block_lt_of_cell? _ _ q2
        go_wp2_with fail
        refine (crun_calls (G1.out.1.mod HT.out.2.2 (by simp)) 44 _ 4 4 [x0, x1, x2, x3] (Just [p0, p1] 0) (sl_four e0 e1 e2 e3) rfl (four_in HI.out.1 HI.out.2.1 HI.out.2.2.1 HI.out.2.2.2) (by simp) HRU.out).mono ?_
        rintro e v6 ⟨C6, er6, b1, c1, ⟨rfl, rfl⟩, rfl, hw6, m6⟩
        have HW := Lib.hid hw6
        have HT2 := Lib.hid (HT.out.far m6)
        clear hw6 m6 e0 e1 e2 e3 q0 q1 q2 q3 lL lA lB HT
        have HT := HT2
        clear HT2
        have e0 := HT.out.1.1
        have e1 := HT.out.1.2.1
        have e2 := HT.out.1.2.2.1
        have e3 := HT.out.1.2.2.2
        have q0 := HT.out.2.1.1
        have q1 := HT.out.2.1.2.1
        have q2 := HT.out.2.1.2.2.1
        have q3 := HT.out.2.1.2.2.2
        have lL := World.block_lt_of_cell? _ _ e0
        have lA := World.block_lt_of_cell? _ _ q0
        have lB := World.block_lt_of_cell? _ _ q2
        go_wp2_with fail
        refine (HADD.out _).mono ?_
        rintro e v7 ⟨rfl, hx7⟩
        have HW2 := Lib.hid (HW.out.mod (Mod.of_below hx7.1) (by simp))
        have HT2 := Lib.hid (HT.out.far (Mod.of_below hx7.1))
        clear hx7 e0 e1 e2 e3 q0 q1 q2 q3 lL lA lB HT HW
        have HT := HT2
        have HW := HW2
        clear HT2 HW2
        have e0 := HT.out.1.1
        have e1 := HT.out.1.2.1
        have e2 := HT.out.1.2.2.1
        have e3 := HT.out.1.2.2.2
        have q0 := HT.out.2.1.1
        have q1 := HT.out.2.1.2.1
        have q2 := HT.out.2.1.2.2.1
        have q3 := HT.out.2.1.2.2.2
        have lL := World.block_lt_of_cell? _ _ e0
        have lA := World.block_lt_of_cell? _ _ q0
        have lB := World.block_lt_of_cell? _ _ q2
        go_wp2_with fail
        refine (HUD.out _).mono ?_
        rintro e v8 ⟨rfl, hx8⟩
        have m8 : Mod [] v7 v8 := (far_alloc v7 (.cells #[.int .i64 p0, .int .i64 p1] 44)).far (Mod.of_below hx8.1)
        have oP := (Own.last (X := v7) (x := .int .i64 p0) (y := .int .i64 p1) (t := 44)).ext hx8
        have HPP := Lib.hid (And.intro oP.c0 oP.c1)
        have HW2 := Lib.hid (HW.out.mod m8 (by simp))
        have HT2 := Lib.hid (HT.out.far m8)
        clear hx8 e0 e1 e2 e3 q0 q1 q2 q3 lL lA lB HT HW oP
        obtain ⟨P, hP⟩ : ∃ P, P = v7.heap.size := ⟨_, rfl⟩
        rw [← hP] at HPP
        rw [← hP]
        have HPN := Lib.hid hP
        clear hP m8
        have HT := HT2
        have HW := HW2
        clear HT2 HW2
        have e0 := HT.out.1.1
        have e1 := HT.out.1.2.1
        have e2 := HT.out.1.2.2.1
        have e3 := HT.out.1.2.2.2
        have q0 := HT.out.2.1.1
        have q1 := HT.out.2.1.2.1
        have q2 := HT.out.2.1.2.2.1
        have q3 := HT.out.2.1.2.2.2
        have lL := World.block_lt_of_cell? _ _ e0
        have lA := World.block_lt_of_cell? _ _ q0
        have lB := World.block_lt_of_cell? _ _ q2
        have s0 := HPP.out.1
        have s1 := HPP.out.2
        have lP := World.block_lt_of_cell? _ _ s0
        go_wp2_with fail
        refine (crun_calls (G1.out.1.mod (HT.out.2.2.far (far_alloc _ _)) (by simp)) 55 _ 3 3 [x0, x1, x2] _ (sl_three _ _ _ _ _) rfl (three_in HI.out.1 HI.out.2.1 HI.out.2.2.1) (by simp) HRD.out).mono ?_
        rintro e v9 ⟨C9, er9, b2, c2, ⟨rfl, hC9⟩, rfl, hw9, m9⟩
        have m9' := (far_alloc v8 (.cells #[.int .i64 x0, .int .i64 x1, .int .i64 x2] 37)).far m9
        have HW2 := Lib.hid (And.intro (HW.out.mod m9' (by simp)) hw9)
        have HT2 := Lib.hid (HT.out.far m9')
        have HPP2 := Lib.hid (And.intro (m9'.cell (by simp) HPP.out.1) (m9'.cell (by simp) HPP.out.2))
        clear e0 e1 e2 e3 q0 q1 q2 q3 lL lA lB HT HW HPP s0 s1 lP m9 m9' hw9
        have HT := HT2
        have HW := HW2
        have HPP := HPP2
        clear HT2 HW2 HPP2
        have e0 := HT.out.1.1
        have e1 := HT.out.1.2.1
        have e2 := HT.out.1.2.2.1
        have e3 := HT.out.1.2.2.2
        have q0 := HT.out.2.1.1
        have q1 := HT.out.2.1.2.1
        have q2 := HT.out.2.1.2.2.1
        have q3 := HT.out.2.1.2.2.2
        have lL := World.block_lt_of_cell? _ _ e0
        have lA := World.block_lt_of_cell? _ _ q0
        have lB := World.block_lt_of_cell? _ _ q2
        have s0 := HPP.out.1
        have s1 := HPP.out.2
        have lP := World.block_lt_of_cell? _ _ s0
        by_cases hue : er9 = 0
        · obtain rfl := hC9 hue
          have u1 : (er9 == 0) = true := beq_iff_eq.2 hue
          have u2 : (er9 != er9) = false := bne_self_eq_false _
          clear hue hC9
          go_wp2_with fail
          refine (same_self (X := [p0, p1]) (HW.out.1.sl.mod (far_alloc _ _) (by simp)) (sl_two _ _ _ _) rfl rfl (by simp)).mono ?_
          rintro e v10 ⟨rfl, m10⟩
          have n10 := (far_alloc v9 (.cells #[.int .i64 p0, .int .i64 p1] 37)).far m10
          have HD2 := Lib.hid (HW.out.2.mod n10 (by simp))
          have HT2 := Lib.hid (HT.out.far n10)
          clear m10 s0 s1 lP HPP HW
          clear e0 e1 e2 e3 q0 q1 q2 q3 lL lA lB HT n10
          have HT := HT2
          clear HT2
          have e0 := HT.out.1.1
          have e1 := HT.out.1.2.1
          have e2 := HT.out.1.2.2.1
          have e3 := HT.out.1.2.2.2
          have q0 := HT.out.2.1.1
          have q1 := HT.out.2.1.2.1
          have q2 := HT.out.2.1.2.2.1
          have q3 := HT.out.2.1.2.2.2
          have lL := World.block_lt_of_cell? _ _ e0
          have lA := World.block_lt_of_cell? _ _ q0
          have lB := World.block_lt_of_cell? _ _ q2
          go_wp2_with fail
          refine (same_self (X := [ur, uq]) (HD2.out.sl.mod (far_alloc _ _) (by simp)) (sl_two _ _ _ _) rfl rfl (by simp)).mono ?_
          rintro e v11 ⟨rfl, m11⟩
          have n11 := (far_alloc v10 (.cells #[.int .i64 ur, .int .i64 uq] 37)).far m11
          have HT2 := Lib.hid (HT.out.far n11)
          clear m11 HD2
          clear e0 e1 e2 e3 q0 q1 q2 q3 lL lA lB HT n11
          have HT := HT2
          clear HT2
          have e0 := HT.out.1.1
          have e1 := HT.out.1.2.1
          have e2 := HT.out.1.2.2.1
          have e3 := HT.out.1.2.2.2
          have q0 := HT.out.2.1.1
          have q1 := HT.out.2.1.2.1
          have q2 := HT.out.2.1.2.2.1
          have q3 := HT.out.2.1.2.2.2
          have lL := World.block_lt_of_cell? _ _ e0
          have lA := World.block_lt_of_cell? _ _ q0
          have lB := World.block_lt_of_cell? _ _ q2
          go_wp2_with fail
          refine (HRE.out _).mono ?_
          rintro e v12 ⟨rfl, hx12⟩
          have n12 := Mod.of_below hx12.1
          clear hx12
          have HT2 := Lib.hid (HT.out.far n12)
          clear e0 e1 e2 e3 q0 q1 q2 q3 lL lA lB HT n12
          have HT := HT2
          clear HT2
          have e0 := HT.out.1.1
          have e1 := HT.out.1.2.1
          have e2 := HT.out.1.2.2.1
          have e3 := HT.out.1.2.2.2
          have q0 := HT.out.2.1.1
          have q1 := HT.out.2.1.2.1
          have q2 := HT.out.2.1.2.2.1
          have q3 := HT.out.2.1.2.2.2
          have lL := World.block_lt_of_cell? _ _ e0
          have lA := World.block_lt_of_cell? _ _ q0
          have lB := World.block_lt_of_cell? _ _ q2
          go_wp2_with fail
          refine (crun_calls (G1.out.1.mod (HT.out.2.2.far (far_alloc _ _)) (by simp)) (mm + 60) _ 2 2 [x0, x1] (Just [rv] 0) (sl_two _ _ _ _) rfl (two_in HI.out.1 HI.out.2.1) (by simp) HRR.out).mono ?_
          rintro e v13 ⟨C13, er13, b3, c3, ⟨rfl, rfl⟩, rfl, hw13, m13⟩
          have HZ := Lib.hid (And.intro hw13 ((HT.out.2.2.far (far_alloc v12 (.cells #[.int .i64 x0, .int .i64 x1] 37))).far m13))
          clear hw13 m13 e0 e1 e2 e3 q0 q1 q2 q3 lL lA lB HT
          go_wp2_with fail
          refine (same_self (X := [rv]) (HZ.out.1.sl.mod (far_alloc _ _) (by simp)) (sl_one _ _ _) rfl rfl (by simp)).mono ?_
          rintro e v14 ⟨rfl, m14⟩
          go_wp2
          go_ret
          exact ⟨rfl, G1.out.2.far ((HZ.out.2.far (far_alloc v13 (.cells #[.int .i64 rv] 37))).far m14)⟩
        · have u1 : (er9 == 0) = false := beq_eq_false_iff_ne.2 hue
          have u2 : (er9 != er9) = false := bne_self_eq_false _
          clear hue hC9
          go_wp2_with fail
          refine (same_self (X := [p0, p1]) (HW.out.1.sl.mod (far_alloc _ _) (by simp)) (sl_two _ _ _ _) rfl rfl (by simp)).mono ?_
          rintro e v10 ⟨rfl, m10⟩
          have n10 := (far_alloc v9 (.cells #[.int .i64 p0, .int .i64 p1] 37)).far m10
          have HT2 := Lib.hid (HT.out.far n10)
          clear m10 s0 s1 lP HPP HW
          clear e0 e1 e2 e3 q0 q1 q2 q3 lL lA lB HT n10
          have HT := HT2
          clear HT2
          have e0 := HT.out.1.1
          have e1 := HT.out.1.2.1
          have e2 := HT.out.1.2.2.1
          have e3 := HT.out.1.2.2.2
          have q0 := HT.out.2.1.1
          have q1 := HT.out.2.1.2.1
          have q2 := HT.out.2.1.2.2.1
          have q3 := HT.out.2.1.2.2.2
          have lL := World.block_lt_of_cell? _ _ e0
          have lA := World.block_lt_of_cell? _ _ q0
          have lB := World.block_lt_of_cell? _ _ q2
          go_wp2_with fail
          refine (HRE.out _).mono ?_
          rintro e v12 ⟨rfl, hx12⟩
          have n12 := Mod.of_below hx12.1
          clear hx12
          have HT2 := Lib.hid (HT.out.far n12)
          clear e0 e1 e2 e3 q0 q1 q2 q3 lL lA lB HT n12
          have HT := HT2
          clear HT2
          have e0 := HT.out.1.1
          have e1 := HT.out.1.2.1
          have e2 := HT.out.1.2.2.1
          have e3 := HT.out.1.2.2.2
          have q0 := HT.out.2.1.1
          have q1 := HT.out.2.1.2.1
          have q2 := HT.out.2.1.2.2.1
          have q3 := HT.out.2.1.2.2.2
          have lL := World.block_lt_of_cell? _ _ e0
          have lA := World.block_lt_of_cell? _ _ q0
          have lB := World.block_lt_of_cell? _ _ q2
          go_wp2_with fail
          refine (crun_calls (G1.out.1.mod (HT.out.2.2.far (far_alloc _ _)) (by simp)) (mm + 60) _ 2 2 [x0, x1] (Just [rv] 0) (sl_two _ _ _ _) rfl (two_in HI.out.1 HI.out.2.1) (by simp) HRR.out).mono ?_
          rintro e v13 ⟨C13, er13, b3, c3, ⟨rfl, rfl⟩, rfl, hw13, m13⟩
          have HZ := Lib.hid (And.intro hw13 ((HT.out.2.2.far (far_alloc v12 (.cells #[.int .i64 x0, .int .i64 x1] 37))).far m13))
          clear hw13 m13 e0 e1 e2 e3 q0 q1 q2 q3 lL lA lB HT
          go_wp2_with fail
          refine (same_self (X := [rv]) (HZ.out.1.sl.mod (far_alloc _ _) (by simp)) (sl_one _ _ _) rfl rfl (by simp)).mono ?_
          rintro e v14 ⟨rfl, m14⟩
          go_wp2
          go_ret
          exact ⟨rfl, G1.out.2.far ((HZ.out.2.far (far_alloc v13 (.cells #[.int .i64 rv] 37))).far m14)⟩
end Go.Proofs.YtegcecpmdgljpaaGreatDoor
