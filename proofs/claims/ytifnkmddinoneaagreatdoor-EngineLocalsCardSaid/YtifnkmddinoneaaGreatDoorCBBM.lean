/- Layer 13: what the operations on cells, pairs and real numbers do. Condition: the cells are cells. Layer 13: what operations give are cells. Condition: they are given cells. Layer 13: each operation does something that is known, or ends with an error and leaves all as it was. Condition: cells are cells. Layer 13: what the stack's operations do to lists; Do, whatever the operation. Condition: the state is one. -/
import Ieee.Arith
import Derived.Laws.FloatBits
import Derived.Laws.Cover2
import Derived.Laws.FloatArith
import Derived.Test.YtifnkmddinoneaaGreatDoorCBAN
import Derived.Test.YtifnkmddinoneaaGreatDoorCBBL
import Derived.Test.YtifnkmddinoneaaGreatDoorCBAC
import Derived.Laws.Concat
import Derived.Test.YtifnkmddinoneaaGreatDoorCBAB
set_option maxRecDepth 100000
namespace Go.Proofs.YtifnkmddinoneaaGreatDoor
open Go.RowKit Ieee
set_option linter.unusedVariables false

/-- Operation n of the cells X gives P and the error e, whatever the rest of the stack is; the rest of the state is μ' then. -/
def Uni (n : Int) (k : Nat) (X : List Int) (μ : Mu) (P : List Int) (e : Int) (μ' : Mu) : Prop := ∀ (a : Ad) (R : List Int), Act13 a n k R X μ ⟨P, e, R, μ'⟩
set_option maxRecDepth 100000 in
theorem cellop1_does {w : World} {b2 : Nat} {n x : Int} (hc : w.cell? ⟨b2, 0, none⟩ = some (.int .i64 n)) : Rt w 129 #[.int .i64 x, Pt b2] (.tuple #[.int .i64 (oneV n x), .int .i64 (oneE n)]) := by
  intro W hW
  have hc := hW.cell (x := ⟨b2, 0, none⟩) (by simp) hc
  have HC := Lib.hid (fun W => one_calls n x W)
  go_enter Tryz.func129, Tryz.ntmps129
  go_wp2_with (first | ((with_reducible refine (HC.out _).mono ?_); rintro e w' ⟨rfl, hx⟩) | fail)
  go_ret2
  exact ⟨rfl, hx ▸ hW⟩
set_option maxRecDepth 100000 in
theorem cellop2_does {w : World} {b2 : Nat} {n x y : Int} (hc : w.cell? ⟨b2, 0, none⟩ = some (.int .i64 n)) : Rt w 132 #[.int .i64 x, .int .i64 y, Pt b2] (.tuple #[.int .i64 (twoV n x y), .int .i64 (twoE n y)]) := by
  intro W hW
  have hc := hW.cell (x := ⟨b2, 0, none⟩) (by simp) hc
  have HC := Lib.hid (fun W => two_calls n x y W)
  go_enter Tryz.func132, Tryz.ntmps132
  go_wp2_with (first | ((with_reducible refine (HC.out _).mono ?_); rintro e w' ⟨rfl, hx⟩) | fail)
  go_ret2
  exact ⟨rfl, hx ▸ hW.far (far_alloc _ _)⟩
theorem act_c1 (n x : Int) (hn : 1 ≤ n ∧ n ≤ 10) (μ : Mu) : Uni n 1 [x] μ [oneV n x] 0 μ := fun a R => by
  refine act_one (G := 262) (d := .box 129 (.int .i64 n)) (by unfold shp; rw [if_pos hn]; rfl) ?_
  rintro w T b c bx dv h ho hb hc ⟨b2, _, h2, rfl⟩
  have e : oneE n = 0 := if_pos hn
  have k := cellop1_does (x := x) h2
  rw [e] at k
  exact (ofcell_does ho hc (fun xs W => by kernel_rfl) (p := #[]) (q := #[Pt b2]) k).mono fun e w' hg => hg.acted h
theorem act_c2 (n x y : Int) (hn : 11 ≤ n ∧ n ≤ 27) (μ : Mu) : Uni n 2 [x, y] μ [twoV n x y] (twoE n y) μ := fun a R => by
  refine act_one (G := 264) (d := .box 132 (.int .i64 n)) (by unfold shp; rw [if_neg (by omega), if_pos hn]; rfl) ?_
  rintro w T b c bx dv h ho hb hc ⟨b2, _, h2, rfl⟩
  exact (ofcells_does ho hc (fun xs W => by kernel_rfl) (p := #[]) (q := #[Pt b2]) (cellop2_does (x := x) (y := y) h2)).mono fun e w' hg => hg.acted h
end Go.Proofs.YtifnkmddinoneaaGreatDoor
namespace Go.Proofs.YtifnkmddinoneaaGreatDoor
open Go.RowKit Ieee
set_option linter.unusedVariables false
abbrev Er (e : Int) : Prop := e ≠ 1 ∧ -100 ≤ e ∧ e ≤ 100
end Go.Proofs.YtifnkmddinoneaaGreatDoor
namespace Go.Proofs.YtifnkmddinoneaaGreatDoor
open Go.RowKit Ieee
set_option linter.unusedVariables false

theorem len0 {X : List Int} (h : X.length = 0) : X = [] := List.length_eq_zero_iff.1 h
variable {μ : Mu}
def arity (n : Int) : Nat := if 1 ≤ n ∧ n ≤ 10 then 1 else if 11 ≤ n ∧ n ≤ 27 then 2 else if 28 ≤ n ∧ n ≤ 42 then 0 else if 61 ≤ n ∧ n ≤ 62 then 1 else if 63 ≤ n ∧ n ≤ 70 then 2 else
  (match n with
  | 43 => 1
  | 44 => 4
  | 45 => 4
  | 46 => 2
  | 47 => 2
  | 48 => 4
  | 49 => 4
  | 50 => 4
  | 51 => 2
  | 52 => 2
  | 53 => 2
  | 54 => 2
  | 55 => 3
  | 56 => 3
  | 57 => 3
  | 58 => 3
  | 59 => 3
  | 60 => 2
  | 71 => 1
  | 72 => 1
  | 73 => 1
  | 74 => 2
  | 75 => 1
  | 76 => 2
  | 77 => 2
  | 78 => 1
  | 79 => 3
  | 80 => 3
  | 81 => 3
  | 82 => 0
  | 83 => 1
  | 84 => 1
  | 85 => 1
  | 86 => 0
  | 87 => 1
  | 88 => 1
  | 89 => 1
  | 90 => 1
  | 91 => 1
  | 92 => 1
  | 93 => 2
  | 94 => 1
  | 95 => 0
  | 96 => 0
  | 97 => 1
  | 98 => 2
  | 100 => 0
  | 101 => 0
  | 102 => 0
  | 103 => 2
  | 104 => 2
  | 105 => 1
  | 106 => 1
  | 107 => 2
  | _ => 0)
theorem shp_arity (s : Nat) (n : Int) (S : Shp) (h : shp s n = some S) : takes S = (arity n : Int) := by
  unfold shp at h
  by_cases c1 : 1 ≤ n ∧ n ≤ 10
  · rw [if_pos c1] at h; injection h with h; subst h; unfold arity; rw [if_pos c1]; rfl
  rw [if_neg c1] at h
  by_cases c2 : 11 ≤ n ∧ n ≤ 27
  · rw [if_pos c2] at h; injection h with h; subst h; unfold arity; rw [if_neg c1, if_pos c2]; rfl
  rw [if_neg c2] at h
  by_cases c3 : 28 ≤ n ∧ n ≤ 42
  · rw [if_pos c3] at h; injection h with h; subst h; unfold arity; rw [if_neg c1, if_neg c2, if_pos c3]; rfl
  rw [if_neg c3] at h
  by_cases c4 : 61 ≤ n ∧ n ≤ 62
  · rw [if_pos c4] at h; injection h with h; subst h; unfold arity; rw [if_neg c1, if_neg c2, if_neg c3, if_pos c4]; rfl
  rw [if_neg c4] at h
  by_cases c5 : 63 ≤ n ∧ n ≤ 70
  · rw [if_pos c5] at h; injection h with h; subst h; unfold arity; rw [if_neg c1, if_neg c2, if_neg c3, if_neg c4, if_pos c5]; rfl
  rw [if_neg c5] at h
  unfold arity
  rw [if_neg c1, if_neg c2, if_neg c3, if_neg c4, if_neg c5]
  unfold shpL at h
  split at h
  all_goals first
    | (injection h with h; subst h; rfl)
    | cases h
theorem shp_known (s : Nat) (n : Int) (hn : 1 ≤ n ∧ n ≤ 107) : ∃ S, shp s n = some S := by
  unfold shp
  by_cases c1 : 1 ≤ n ∧ n ≤ 10
  · exact ⟨_, if_pos c1⟩
  rw [if_neg c1]
  by_cases c2 : 11 ≤ n ∧ n ≤ 27
  · exact ⟨_, if_pos c2⟩
  rw [if_neg c2]
  by_cases c3 : 28 ≤ n ∧ n ≤ 42
  · exact ⟨_, if_pos c3⟩
  rw [if_neg c3]
  by_cases c4 : 61 ≤ n ∧ n ≤ 62
  · exact ⟨_, if_pos c4⟩
  rw [if_neg c4]
  by_cases c5 : 63 ≤ n ∧ n ≤ 70
  · exact ⟨_, if_pos c5⟩
  rw [if_neg c5]
  rcases (show n = 43 ∨ n = 44 ∨ n = 45 ∨ n = 46 ∨ n = 47 ∨ n = 48 ∨ n = 49 ∨ n = 50 ∨ n = 51 ∨ n = 52 ∨ n = 53 ∨ n = 54 ∨ n = 55 ∨ n = 56 ∨ n = 57 ∨ n = 58 ∨ n = 59 ∨ n = 60 ∨ n = 71 ∨ n = 72 ∨ n = 73 ∨ n = 74 ∨ n = 75 ∨ n = 76 ∨ n = 77 ∨ n = 78 ∨ n = 79 ∨ n = 80 ∨ n = 81 ∨ n = 82 ∨ n = 83 ∨ n = 84 ∨ n = 85 ∨ n = 86 ∨ n = 87 ∨ n = 88 ∨ n = 89 ∨ n = 90 ∨ n = 91 ∨ n = 92 ∨ n = 93 ∨ n = 94 ∨ n = 95 ∨ n = 96 ∨ n = 97 ∨ n = 98 ∨ n = 99 ∨ n = 100 ∨ n = 101 ∨ n = 102 ∨ n = 103 ∨ n = 104 ∨ n = 105 ∨ n = 106 ∨ n = 107 by omega) with rfl | rfl | rfl | rfl | rfl | rfl | rfl | rfl | rfl | rfl | rfl | rfl | rfl | rfl | rfl | rfl | rfl | rfl | rfl | rfl | rfl | rfl | rfl | rfl | rfl | rfl | rfl | rfl | rfl | rfl | rfl | rfl | rfl | rfl | rfl | rfl | rfl | rfl | rfl | rfl | rfl | rfl | rfl | rfl | rfl | rfl | rfl | rfl | rfl | rfl | rfl | rfl | rfl | rfl | rfl
  all_goals exact ⟨_, rfl⟩
end Go.Proofs.YtifnkmddinoneaaGreatDoor
namespace Go.Proofs.YtifnkmddinoneaaGreatDoor
open Go.RowKit
set_option linter.unusedVariables false

theorem chosen_some (A : List Int) (x : Int) (B : List Int) : chosenAt (A ++ x :: (B ++ [(B.length : Int)])) = some (A, x, B) := by
  rcases chosen_cases (A ++ x :: (B ++ [(B.length : Int)])) with ⟨_, h | ⟨R, u, h, hu⟩⟩ | ⟨A', x', B', h, e⟩
  · simp at h
  · refine absurd ?_ hu
    have h1 : (A ++ x :: B) ++ [(B.length : Int)] = R ++ [u] := by rw [← h]; simp
    have h2 := List.append_inj' h1 rfl
    injection h2.2 with h3
    rw [← h2.1, ← h3]
    simp
    omega
  · have h1 : (A ++ x :: B) ++ [(B.length : Int)] = (A' ++ x' :: B') ++ [(B'.length : Int)] := by simpa using h
    have h2 := List.append_inj' h1 rfl
    injection h2.2 with h3
    have h4 : B.length = B'.length := by omega
    have h5 := List.append_inj' h2.1 (by simp [h4])
    injection h5.2 with h6 h7
    rw [e, h5.1, h6, h7]
theorem pickL_some (A : List Int) (x : Int) (B : List Int) : pickL (A ++ x :: (B ++ [(B.length : Int)])) = (0, A ++ x :: (B ++ [x])) := by unfold pickL; rw [chosen_some]
theorem rollL_some (A : List Int) (x : Int) (B : List Int) : rollL (A ++ x :: (B ++ [(B.length : Int)])) = (0, A ++ (B ++ [x])) := by unfold rollL; rw [chosen_some]
theorem doL_128 (op : Int) (L : List Int) (h : L.length ≤ 128) : (doL op L).2.length ≤ 128 := by
  unfold doL
  split
  · rcases chosen_cases L with ⟨e, _⟩ | ⟨A, x, B, rfl, e⟩
    · unfold pickL; rw [e]; exact h
    · rw [pickL_some]; simp at h ⊢; omega
  split
  · rcases chosen_cases L with ⟨e, _⟩ | ⟨A, x, B, rfl, e⟩
    · unfold rollL; rw [e]; exact h
    · rw [rollL_some]; simp at h ⊢; omega
  split
  · unfold putL; split
    · simp at *; omega
    · exact h
  split
  · exact h
  · unfold replL; split
    · exact h
    · split
      · exact h
      · simp; omega
variable {w : World} {a : Ad} {T : List Nat} {C : List Int} {μ : Mu}
set_option maxHeartbeats 1000000 in
theorem act_stk (a : Ad) (n : Int) (R : List Int) (μ : Mu) (hn : 28 ≤ n ∧ n ≤ 42) : Act13 a n 0 R [] μ ⟨[], (doL n R).1, (doL n R).2, μ⟩ := by
  have hS : shp a.s n = some .stk := by unfold shp; rw [if_neg (by omega), if_neg (by omega), if_pos hn]
  intro S F' q w T b c hS' hv h ho hb
  rw [hS] at hS'
  injection hS' with hS'
  subst hS'
  obtain ⟨w1, hz, ⟨b1, b2, h1, h2, g1, g2, h3⟩, hk⟩ := hv
  have l1 : b1 < w1.heap.size := World.block_lt_of_cell? _ _ g1
  have l2 : b2 < w1.heap.size := World.block_lt_of_cell? _ _ g2
  have g1 : w.cell? ⟨b1, 0, none⟩ = some (Pt a.s) := (World.cell?_of_block (a := ⟨b1, 0, none⟩) (hk b1 h1 (by omega))).trans g1
  have g2 : w.cell? ⟨b2, 0, none⟩ = some (.int .i64 n) := (World.cell?_of_block (a := ⟨b2, 0, none⟩) (hk b2 h2 (by omega))).trans g2
  injection h3 with h3
  injection h3 with h3
  injection h3 with _ h3
  injection h3 with h3 _
  injection h3 with e1 _ e3
  injection e1 with e1
  subst e1 e3
  have c0 := h.c0
  have hW : Mod [] w w.drew := (Mod.refl [] w).drew
  have h0 := h.far hW
  have HC := Lib.hid (do_calls h0.st n)
  have HH := Lib.hid h0
  have n1 : b1 ∉ [a.p] := by simp; exact fun e => h.box_ne h1 (by omega) (e ▸ h.ts.2.1)
  have n2 : b2 ∉ [a.p] := by simp; exact fun e => h.box_ne h2 (by omega) (e ▸ h.ts.2.1)
  have ns : a.s ∉ [a.p] := by simp; exact h.ne.1
  have np := h.ts.2.1
  clear h ho h0 hk hz l1 l2
  show Calls Tryz.prog 134 #[.slice (some ⟨b, 0, none⟩) 0 c, Pt b1, Pt b2] w _
  go_enter Tryz.func134, Tryz.ntmps134
  go_wp2_with fail
  go_region_held3 (fun W => W.cell? ⟨b1, 0, none⟩ = some (Pt a.s) ∧ W.cell? ⟨b2, 0, none⟩ = some (.int .i64 n) ∧ W.cell? ⟨a.s, 0, none⟩ = some (Pt a.p)) (first | with_reducible exact ⟨hW.cell (x := ⟨b1, 0, none⟩) (by simp) g1, hW.cell (x := ⟨b2, 0, none⟩) (by simp) g2, hW.cell (x := ⟨a.s, 0, none⟩) (by simp) c0⟩ | with_reducible exact ⟨hm2.cell (x := ⟨b1, 0, none⟩) n1 (hW.cell (x := ⟨b1, 0, none⟩) (by simp) g1), hm2.cell (x := ⟨b2, 0, none⟩) n2 (hW.cell (x := ⟨b2, 0, none⟩) (by simp) g2), hm2.cell (x := ⟨a.s, 0, none⟩) ns (hW.cell (x := ⟨a.s, 0, none⟩) (by simp) c0)⟩ | fail)
    (first | ((with_reducible refine (HC.out).mono ?_); rintro e w2 ⟨rfl, hst, hm2⟩) | fail)
  go_wp2
  go_ret2
  exact ⟨none, 0, 0, T, rfl, rfl, Sl.nil _ _, (Tn.far hW).trans (.of_mod hm2 (by simp; exact np)), HH.out.stack hm2 hst⟩
end Go.Proofs.YtifnkmddinoneaaGreatDoor
