/- Layer 15: EngineBranches's walk. Condition: the argument is a slice of cells that came in; the listed variables hold what they hold. -/
import Derived.Lib.MinMax
import Derived.Test.YtifnkmddinoneaaGreatDoorCBBP
import Derived.Test.YtifnkmddinoneaaGreatDoorCBBR
import Derived.Test.YtifnkmddinoneaaGreatDoorCBBQ
set_option maxRecDepth 100000
namespace Go.Proofs.YtifnkmddinoneaaGreatDoor
open Go.RowKit
set_option linter.unusedVariables false
theorem pieceB_ok {i a : Nat} {c : Int} (ha : a ≤ 900) (hc : I64 c) : ∀ x ∈ pieceB i a c, OkX x := by
  unfold pieceB
  split
  · intro x hx
    simp at hx
    rcases hx with rfl | rfl | rfl | rfl | rfl <;> refine ⟨by simp, by simp, ?_, ?_, ?_⟩ <;> first | exact hc | (unfold I64; simp; done) | (dsimp only; omega)
  · intro x hx
    simp at hx
    rcases hx with rfl | rfl | rfl | rfl | rfl | rfl | rfl <;> refine ⟨by simp, by simp, ?_, ?_, ?_⟩ <;> first | exact hc | (unfold I64; simp; done) | (dsimp only; omega)
theorem codeB_ok : ∀ (l : List Int) (i a : Nat), a + 7 * l.length ≤ 900 → (∀ c ∈ l, I64 c) → ∀ x ∈ codeB i a l, OkX x
  | [], i, a, _, _ => by simp [codeB]
  | c :: r, i, a, h, hc => by
    intro x hx
    simp only [codeB] at hx
    simp only [List.length_cons] at h
    have hl := piece_len i a c
    rcases List.mem_append.1 hx with e | e
    · exact pieceB_ok (by omega) (hc c (by simp)) x e
    · exact codeB_ok r (i + 1) _ (by split at hl <;> omega) (fun y hy => hc y (by simp [hy])) x e
set_option maxRecDepth 100000 in
set_option maxHeartbeats 8000000 in
theorem branches_walk {w : World} (hg : Good w) (g10 : L10.Good w) (A1 : Option Addr) (len c1 : Nat) (zs : List Int) (hr : RowIn .i64 w A1 len c1 zs) :
    Calls Tryz.prog 8 #[.slice A1 len c1] w fun e w' => e = .returned (.bool true) ∧ Mod [] w w' := by
  obtain ⟨Y, k, hc⟩ := hr.came 20
  have hminl : min (len : Int) 20 = (k : Int) := by have := hc.e; omega
  have hk20 : k ≤ 20 := by have := hc.e; omega
  have hs2 := hc.h
  have H0 := Lib.hid (shown15 w hg g10)
  have HG := Lib.hid (And.intro hg (And.intro g10 hc))
  clear hg g10 hr hc
  go_enter Tryz.func8, Tryz.ntmps8
  go_wp2_with fail
  refine (H0.out).mono ?_
  rintro e w1 ⟨rfl, m1⟩
  have H1 := Lib.hid (lw_built m1 (HG.out.1.mod m1 (by simp)))
  clear H0 m1
  go_wp2_with fail
  refine (H1.out).mono ?_
  rintro e w2 ⟨A, ⟨rfl, h2⟩, m2⟩
  have H2 := Lib.hid h2
  clear h2 m2 H1
  go_wp2_with fail
  go_loopw [6, 7, 26] (fun vc vx y wr => ∃ j : Nat, y = .int .i64 (j : Int) ∧ j ≤ k ∧ RowKit.Hid (Rows2 w2 wr vc (codeB 0 0 (Y.take j)) vx ((Y.take j).map wantB))) (fun _ _ y _ => k + 1 - (intOf y).toNat)
  case atStart => exact ⟨0, rfl, by omega, Lib.hid (Rows2.nil w2)⟩
  case round =>
    obtain ⟨j, rfl, hj, hi⟩ := hrel
    obtain ⟨⟨Ac, cc, rfl⟩, Ax, cx, rfl⟩ := hi.out.shape
    have hlen := codeB_le (Y.take j) 0 0
    have hlj : (Y.take j).length = j := by rw [List.length_take, HG.out.2.2.n]; omega
    obtain ⟨n, hn⟩ : ∃ n, n = (codeB 0 0 (Y.take j)).length := ⟨_, rfl⟩
    rw [← hn] at hlen hi ⊢
    rw [List.length_map, hlj] at hi ⊢
    have hn140 : n ≤ 140 := by omega
    by_cases hlt : j < k
    · have hjI : (j : Int) < (k : Int) := by omega
      have wj : wrap64 ((j : Int) + 1) = (j : Int) + 1 := IntWalk.wrap64_in _ (by omega)
      obtain ⟨b, o, c, rfl, hcell, hY, hcI⟩ := HG.out.2.2.at_ (H2.out.mod.trans hi.out.m) hlt
      have w4 : wrap64 ((n : Int) + 4) = (n : Int) + 4 := IntWalk.wrap64_in _ (by omega)
      have w5 : wrap64 ((n : Int) + 5) = (n : Int) + 5 := IntWalk.wrap64_in _ (by omega)
      have w7 : wrap64 ((n : Int) + 7) = (n : Int) + 7 := IntWalk.wrap64_in _ (by omega)
      have HY := Lib.hid (And.intro hY (And.intro hn hlj))
      have HI := Lib.hid hi.out
      by_cases h2 : j % 2 = 0
      · have hb : ((j : Int) % 2 == 0) = true := by simp; omega
        by_cases hc0 : c = 0
        · obtain ⟨A3, m3, c3, w3, r3, e3, R3⟩ := hi.out.ins (pieceB j n c) (by rw [piece_len]; split <;> omega) #[.int .u8 1, .int .i64 0, .int .i64 c, .int .u8 4, .int .i64 ((n : Int) + 4), .int .i64 0, .int .u8 1, .int .i64 0, .int .i64 7, .int .u8 3, .int .i64 ((n : Int) + 5), .int .i64 0, .int .u8 1, .int .i64 0, .int .i64 9] (by unfold pieceB; rw [if_pos h2]; rfl) 5 (by rw [piece_len, if_pos h2])
          obtain ⟨A4, m4, c4, w4', r4, e4, R4⟩ := R3.cell 9 (by rw [List.length_map]; omega)
          have HR := Lib.hid R4
          have hcb : (c == 0) = true := by simpa using hc0
          have HW := Lib.hid (show wantB c = 9 from if_pos hc0)
          clear hc0
          clear hi hn hlj hY hlen R3 R4 e3 e4 h2
          go_wp2_with fail
          go_roundw
          case rel =>
            obtain ⟨hY, hn, hlj⟩ := HY.out
            obtain ⟨q1, q2⟩ := branch_next (by rw [HG.out.2.2.n]; exact hlt) hY hn
            have R5 := HR.out
            refine ⟨j + 1, by go_num, by omega, Lib.hid ?_⟩
            rw [q1, q2, HW.out]
            exact R5
          case measure => simp [intOf]; omega
        · obtain ⟨A3, m3, c3, w3, r3, e3, R3⟩ := hi.out.ins (pieceB j n c) (by rw [piece_len]; split <;> omega) #[.int .u8 1, .int .i64 0, .int .i64 c, .int .u8 4, .int .i64 ((n : Int) + 4), .int .i64 0, .int .u8 1, .int .i64 0, .int .i64 7, .int .u8 3, .int .i64 ((n : Int) + 5), .int .i64 0, .int .u8 1, .int .i64 0, .int .i64 9] (by unfold pieceB; rw [if_pos h2]; rfl) 5 (by rw [piece_len, if_pos h2])
          obtain ⟨A4, m4, c4, w4', r4, e4, R4⟩ := R3.cell 7 (by rw [List.length_map]; omega)
          have HR := Lib.hid R4
          have hcb : (c == 0) = false := by simpa using hc0
          have HW := Lib.hid (show wantB c = 7 from if_neg hc0)
          clear hc0
          clear hi hn hlj hY hlen R3 R4 e3 e4 h2
          go_wp2_with fail
          go_roundw
          case rel =>
            obtain ⟨hY, hn, hlj⟩ := HY.out
            obtain ⟨q1, q2⟩ := branch_next (by rw [HG.out.2.2.n]; exact hlt) hY hn
            have R5 := HR.out
            refine ⟨j + 1, by go_num, by omega, Lib.hid ?_⟩
            rw [q1, q2, HW.out]
            exact R5
          case measure => simp [intOf]; omega
      · have hb : ((j : Int) % 2 == 0) = false := by simp; omega
        by_cases hc0 : c = 0
        · obtain ⟨A3, m3, c3, w3, r3, e3, R3⟩ := hi.out.ins (pieceB j n c) (by rw [piece_len]; split <;> omega) #[.int .u8 1, .int .i64 0, .int .i64 c, .int .u8 1, .int .i64 0, .int .i64 0, .int .u8 10, .int .i64 ((n : Int) + 5), .int .i64 0, .int .u8 1, .int .i64 0, .int .i64 9, .int .u8 3, .int .i64 ((n : Int) + 7), .int .i64 0, .int .u8 11, .int .i64 0, .int .i64 0, .int .u8 1, .int .i64 0, .int .i64 7] (by unfold pieceB; rw [if_neg h2]; rfl) 7 (by rw [piece_len, if_neg h2])
          obtain ⟨A4, m4, c4, w4', r4, e4, R4⟩ := R3.cell 9 (by rw [List.length_map]; omega)
          have HR := Lib.hid R4
          have hcb : (c == 0) = true := by simpa using hc0
          have HW := Lib.hid (show wantB c = 9 from if_pos hc0)
          clear hc0
          clear hi hn hlj hY hlen R3 R4 e3 e4 h2
          go_wp2_with fail
          go_roundw
          case rel =>
            obtain ⟨hY, hn, hlj⟩ := HY.out
            obtain ⟨q1, q2⟩ := branch_next (by rw [HG.out.2.2.n]; exact hlt) hY hn
            have R5 := HR.out
            refine ⟨j + 1, by go_num, by omega, Lib.hid ?_⟩
            rw [q1, q2, HW.out]
            exact R5
          case measure => simp [intOf]; omega
        · obtain ⟨A3, m3, c3, w3, r3, e3, R3⟩ := hi.out.ins (pieceB j n c) (by rw [piece_len]; split <;> omega) #[.int .u8 1, .int .i64 0, .int .i64 c, .int .u8 1, .int .i64 0, .int .i64 0, .int .u8 10, .int .i64 ((n : Int) + 5), .int .i64 0, .int .u8 1, .int .i64 0, .int .i64 9, .int .u8 3, .int .i64 ((n : Int) + 7), .int .i64 0, .int .u8 11, .int .i64 0, .int .i64 0, .int .u8 1, .int .i64 0, .int .i64 7] (by unfold pieceB; rw [if_neg h2]; rfl) 7 (by rw [piece_len, if_neg h2])
          obtain ⟨A4, m4, c4, w4', r4, e4, R4⟩ := R3.cell 7 (by rw [List.length_map]; omega)
          have HR := Lib.hid R4
          have hcb : (c == 0) = false := by simpa using hc0
          have HW := Lib.hid (show wantB c = 7 from if_neg hc0)
          clear hc0
          clear hi hn hlj hY hlen R3 R4 e3 e4 h2
          go_wp2_with fail
          go_roundw
          case rel =>
            obtain ⟨hY, hn, hlj⟩ := HY.out
            obtain ⟨q1, q2⟩ := branch_next (by rw [HG.out.2.2.n]; exact hlt) hY hn
            have R5 := HR.out
            refine ⟨j + 1, by go_num, by omega, Lib.hid ?_⟩
            rw [q1, q2, HW.out]
            exact R5
          case measure => simp [intOf]; omega
    · have hjI : ¬ (j : Int) < (k : Int) := by omega
      have hjk : j = k := by omega
      subst hjk
      have hYt : Y.take j = Y := List.take_of_length_le (by rw [HG.out.2.2.n]; omega)
      obtain ⟨A3, m3, c3, w3, r3, e3, R3⟩ := hi.out.ins [⟨15, 0, 0⟩] (by simp; omega) #[.int .u8 15, .int .i64 0, .int .i64 0] rfl 1 rfl
      rw [hYt] at R3
      have hD : ∀ x ∈ codeB 0 0 Y ++ [⟨15, 0, 0⟩], OkX x := fun x hx => by
        rcases List.mem_append.1 hx with e | e
        · exact codeB_ok Y 0 0 (by have := HG.out.2.2.n; omega) HG.out.2.2.i x e
        · rw [List.mem_singleton.1 e]; exact okX_of _ (by decide) (by decide) (by unfold I64; decide)
      have hlY : Y.length ≤ 20 := by have := HG.out.2.2.n; omega
      have hl180 := built_len
      have H3 : RowKit.Hid (Calls Tryz.prog 12 #[Pt A.g, .agg #[.slice A3 m3 c3]] w3 (Lw.Did w A (((Value.slice A3 m3 c3).ownBlock.toList ++ (Value.slice Ax j cx).ownBlock.toList).map (fun b => (b, w3.heap[b]?)) ++ []) { builtE 180 with D := [codeB 0 0 Y ++ [⟨15, 0, 0⟩]] } (.tuple #[.int .i64 1, .int .i64 0]))) :=
        Lib.hid (R3.define H2.out HG.out.2.1 (may_branches Y hlY _) hD (by decide))
      have HR := Lib.hid (And.intro R3 hlY)
      clear hi hn hlj hlen hYt R3 hD hlY hl180 e3
      go_wp2_with fail
      refine (H3.out).mono ?_
      rintro e w4 ⟨rfl, h4⟩
      have H4 : RowKit.Hid (Calls Tryz.prog 13 #[Pt A.g, .agg #[.int .i64 5, .int .i64 1, .int .i64 0]] w4 (Lw.Did w A (((Value.slice A3 m3 c3).ownBlock.toList ++ (Value.slice Ax j cx).ownBlock.toList).map (fun b => (b, w3.heap[b]?)) ++ []) ⟨(builtE 180).W ++ [⟨5, 1, 0⟩], [codeB 0 0 Y ++ [⟨15, 0, 0⟩]], [], 0, 0, 0, [], mu0 1024, [], 0⟩ (.tuple #[.int .i64 181, .int .i64 0]))) := Lib.hid (by
        have h9 := h4.add ⟨5, 1, 0⟩ (Or.inr (Or.inl ⟨Or.inl rfl, rfl⟩)) ⟨by decide, by decide, by unfold I64; decide, by unfold I64; decide, by decide⟩ (by show (builtE 180).W.length < 600; rw [built_len]; omega)
        rw [show (({ builtE 180 with D := [codeB 0 0 Y ++ [⟨15, 0, 0⟩]] } : Es).W.length : Int) + 1 = 181 by show ((builtE 180).W.length : Int) + 1 = 181; rw [built_len]; rfl] at h9
        exact h9)
      clear h4 H3
      go_wp2_with fail
      refine (H4.out).mono ?_
      rintro e w5 ⟨rfl, h5⟩
      have H5 := Lib.hid (h5.exec 181 (add_isSome (wd15_new _ _)))
      clear h5 H4
      go_wp2_with fail
      refine (H5.out).mono ?_
      rintro e w6 ⟨rfl, h6⟩
      obtain ⟨k6, l6, p6⟩ := branches_all (W := (builtE 180).W ++ [⟨5, 1, 0⟩]) (μ := mu0 1024) (I := []) (M := 0) (w := 181) HR.out.2 (by decide) (wd15_new _ _)
      have H6 := Lib.hid (Lw.run (E := ⟨(builtE 180).W ++ [⟨5, 1, 0⟩], [codeB 0 0 Y ++ [⟨15, 0, 0⟩]], [], 0, 0, 181, [], mu0 1024, [], 0⟩) h6 p6 nxt_halt (by decide) 300 l6 (by decide))
      unfold stV at H6
      dsimp only at H6
      clear h6 p6 l6 H5
      go_wp2_with fail
      refine (H6.out).mono ?_
      rintro e w7 ⟨rfl, h7⟩
      have HA := Lib.hid h7.state
      have HB := Lib.hid h7.stack
      obtain ⟨N8, hN8⟩ : ∃ N, N = (Y.map wantB).length := ⟨_, rfl⟩
      have HC : RowKit.Hid (Calls Tryz.prog 32 #[Pt A.a.p] w7 fun e w' => ∃ b c, e = .returned (.slice (some ⟨b, 0, none⟩) N8 c) ∧ RowKit.Hid (Calls Tryz.prog 35 #[.slice (some ⟨b, 0, none⟩) N8 c, .slice Ax j cx] w' fun e w9 => e = .returned (.bool true) ∧ Mod [] w' w9) ∧ RowKit.Hid (Mod [] w w')) :=
        Lib.hid (h7.all.mono fun e w' ⟨b, c, he, ho, hb, hl, hm⟩ => ⟨b, c, by rw [hN8]; exact he, Lib.hid (by
          have hx := (HR.out.1.cells (E := builtE 180) (hl.less (fun x hx => List.mem_cons_of_mem _ hx))).sl
          exact same_true ho.sl hx.1 hN8 hx.2.1 (by rw [List.length_map]; have := HR.out.2; omega)), Lib.hid hl.mod⟩)
      clear h7 H6 hN8
      go_wp2_with fail
      refine (HA.out).mono ?_
      rintro e w8 ⟨rfl, rfl⟩
      go_wp2_with fail
      refine (HB.out).mono ?_
      rintro e w8 ⟨rfl, rfl⟩
      go_wp2_with fail
      refine (HC.out).mono ?_
      rintro e w8 ⟨b8, c8, rfl, HX, HM⟩
      clear HA HB HC
      go_wp2_with fail
      refine (HX.out).mono ?_
      rintro e w9 ⟨rfl, m9⟩
      have HM9 := Lib.hid (HM.out.trans m9)
      clear m9 HX
      go_wp2
      go_ret
      exact ⟨rfl, HM9.out⟩
end Go.Proofs.YtifnkmddinoneaaGreatDoor
