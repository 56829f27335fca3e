/- Layer 13: actions over pairs: what a closure over a function of pairs does. Condition: the function's contract is given. -/
import Derived.Test.YtegcecpmdgljpaaGreatDoorMGV
namespace Go.Proofs.YtegcecpmdgljpaaGreatDoor
open Go.RowKit
set_option linter.unusedVariables false

set_option maxHeartbeats 4000000 in
set_option maxRecDepth 100000 in
theorem ofpair_does {w : World} {b c bx : Nat} {x0 x1 y0 y1 : Int} {F : FuncId} (ho : Ow w b [x0, x1] c) (hb : w.cell? ⟨bx, 0, none⟩ = some (.func (.func F) #[] #[])) (hen : ∀ xs W, (callFunc F xs).run Tryz.prog W = .ok (.enter F xs) W)
    (H : Rt w F #[.agg #[.int .i64 x0, .int .i64 x1]] (.agg #[.int .i64 y0, .int .i64 y1])) :
    Calls Tryz.prog 200 #[.slice (some ⟨b, 0, none⟩) 2 c, Pt bx] w (Gives w [y0, y1] 0) := by
  have c0 : w.cell? ⟨b, 0, none⟩ = some (.int .i64 x0) := ho.cell 0 (by simp)
  have c1 : w.cell? ⟨b, 1, none⟩ = some (.int .i64 x1) := ho.cell 1 (by simp)
  have hm : Mod [] w w.drew := (Mod.refl [] w).drew
  have hcap : 2 ≤ c := by obtain ⟨_, _, _, h, _⟩ := ho; exact h
  have he := hen #[.agg #[.int .i64 x0, .int .i64 x1]]
  have HC := Lib.hid H
  have HP := Lib.hid (pairof_calls (n := 2) (c := c) (o := 0) c0 c1 (by omega) (by omega))
  clear ho hen H
  go_enter Tryz.func200, Tryz.ntmps200
  go_wp2_with fail
  go_region_held3 (fun W => W.cell? ⟨bx, 0, none⟩ = some (.func (.func F) #[] #[]) ∧ W.cell? ⟨b, 0, none⟩ = some (.int .i64 x0) ∧ W.cell? ⟨b, 1, none⟩ = some (.int .i64 x1)) (first | with_reducible exact ⟨hm.cell (x := ⟨bx, 0, none⟩) (by simp) hb, hm.cell (x := ⟨b, 0, none⟩) (by simp) c0, hm.cell (x := ⟨b, 1, none⟩) (by simp) c1⟩ | with_reducible exact ⟨(hm.far (far_alloc _ _)).cell (x := ⟨bx, 0, none⟩) (by simp) hb, (hm.far (far_alloc _ _)).cell (x := ⟨b, 0, none⟩) (by simp) c0, (hm.far (far_alloc _ _)).cell (x := ⟨b, 1, none⟩) (by simp) c1⟩ | fail)
    (first | ((with_reducible refine (HP.out _ hm).mono ?_); rintro e w2 ⟨rfl, hm⟩) | ((with_reducible refine (HC.out _ hm).mono ?_); rintro e w2 ⟨rfl, hm⟩) | ((with_reducible refine (cells_calls _ _ _).mono ?_); rintro e w2 ⟨A, m, cap, rfl, hmx, hsl, hm2⟩; have hm := hm.far hm2) | fail)
  go_wp2
  go_ret2
  exact ⟨_, _, _, rfl, rfl, hsl, hm⟩
set_option maxHeartbeats 4000000 in
set_option maxRecDepth 100000 in
theorem ofpairs_does {w : World} {b c bx : Nat} {x0 x1 x2 x3 y0 y1 : Int} {F : FuncId} (ho : Ow w b [x0, x1, x2, x3] c) (hb : w.cell? ⟨bx, 0, none⟩ = some (.func (.func F) #[] #[])) (hen : ∀ xs W, (callFunc F xs).run Tryz.prog W = .ok (.enter F xs) W)
    (H : Rt w F #[.agg #[.int .i64 x0, .int .i64 x1], .agg #[.int .i64 x2, .int .i64 x3]] (.agg #[.int .i64 y0, .int .i64 y1])) :
    Calls Tryz.prog 196 #[.slice (some ⟨b, 0, none⟩) 4 c, Pt bx] w (Gives w [y0, y1] 0) := by
  have c0 : w.cell? ⟨b, 0, none⟩ = some (.int .i64 x0) := ho.cell 0 (by simp)
  have c1 : w.cell? ⟨b, 1, none⟩ = some (.int .i64 x1) := ho.cell 1 (by simp)
  have c2 : w.cell? ⟨b, 2, none⟩ = some (.int .i64 x2) := ho.cell 2 (by simp)
  have c3 : w.cell? ⟨b, 3, none⟩ = some (.int .i64 x3) := ho.cell 3 (by simp)
  have hm : Mod [] w w.drew := (Mod.refl [] w).drew
  have hcap : 4 ≤ c := by obtain ⟨_, _, _, h, _⟩ := ho; exact h
  have he := hen #[.agg #[.int .i64 x0, .int .i64 x1], .agg #[.int .i64 x2, .int .i64 x3]]
  have HC := Lib.hid H
  have HP := Lib.hid (pairof_calls (n := 4) (c := c) (o := 0) c0 c1 (by omega) (by omega))
  have HQ := Lib.hid (pairof_calls (n := 2) (c := c - 2) (o := 2) c2 c3 (by omega) (by omega))
  clear ho hen H
  go_enter Tryz.func196, Tryz.ntmps196
  go_wp2_with fail
  go_region_held3 (fun W => W.cell? ⟨bx, 0, none⟩ = some (.func (.func F) #[] #[]) ∧ W.cell? ⟨b, 0, none⟩ = some (.int .i64 x0) ∧ W.cell? ⟨b, 1, none⟩ = some (.int .i64 x1) ∧ W.cell? ⟨b, 2, none⟩ = some (.int .i64 x2) ∧ W.cell? ⟨b, 3, none⟩ = some (.int .i64 x3)) (first | with_reducible exact ⟨hm.cell (x := ⟨bx, 0, none⟩) (by simp) hb, hm.cell (x := ⟨b, 0, none⟩) (by simp) c0, hm.cell (x := ⟨b, 1, none⟩) (by simp) c1, hm.cell (x := ⟨b, 2, none⟩) (by simp) c2, hm.cell (x := ⟨b, 3, none⟩) (by simp) c3⟩ | with_reducible exact ⟨(hm.far (far_alloc _ _)).cell (x := ⟨bx, 0, none⟩) (by simp) hb, (hm.far (far_alloc _ _)).cell (x := ⟨b, 0, none⟩) (by simp) c0, (hm.far (far_alloc _ _)).cell (x := ⟨b, 1, none⟩) (by simp) c1, (hm.far (far_alloc _ _)).cell (x := ⟨b, 2, none⟩) (by simp) c2, (hm.far (far_alloc _ _)).cell (x := ⟨b, 3, none⟩) (by simp) c3⟩ | fail)
    (first | ((with_reducible refine (HP.out _ hm).mono ?_); rintro e w2 ⟨rfl, hm⟩) | ((with_reducible refine (HQ.out _ hm).mono ?_); rintro e w2 ⟨rfl, hm⟩) | ((with_reducible refine (HC.out _ hm).mono ?_); rintro e w2 ⟨rfl, hm⟩) | ((with_reducible refine (cells_calls _ _ _).mono ?_); rintro e w2 ⟨A, m, cap, rfl, hmx, hsl, hm2⟩; have hm := hm.far hm2) | fail)
  go_wp2
  go_ret2
  exact ⟨_, _, _, rfl, rfl, hsl, hm⟩
set_option maxHeartbeats 4000000 in
set_option maxRecDepth 100000 in
theorem comparison_does {w : World} {b c bx : Nat} {x0 x1 x2 x3  : Int} {z : Bool} {F : FuncId} (ho : Ow w b [x0, x1, x2, x3] c) (hb : w.cell? ⟨bx, 0, none⟩ = some (.func (.func F) #[] #[])) (hen : ∀ xs W, (callFunc F xs).run Tryz.prog W = .ok (.enter F xs) W)
    (H : Rt w F #[.agg #[.int .i64 x0, .int .i64 x1], .agg #[.int .i64 x2, .int .i64 x3]] (.bool z)) :
    Calls Tryz.prog 201 #[.slice (some ⟨b, 0, none⟩) 4 c, Pt bx] w (Gives w [truth z] 0) := by
  have c0 : w.cell? ⟨b, 0, none⟩ = some (.int .i64 x0) := ho.cell 0 (by simp)
  have c1 : w.cell? ⟨b, 1, none⟩ = some (.int .i64 x1) := ho.cell 1 (by simp)
  have c2 : w.cell? ⟨b, 2, none⟩ = some (.int .i64 x2) := ho.cell 2 (by simp)
  have c3 : w.cell? ⟨b, 3, none⟩ = some (.int .i64 x3) := ho.cell 3 (by simp)
  have hm : Mod [] w w.drew := (Mod.refl [] w).drew
  have hcap : 4 ≤ c := by obtain ⟨_, _, _, h, _⟩ := ho; exact h
  have he := hen #[.agg #[.int .i64 x0, .int .i64 x1], .agg #[.int .i64 x2, .int .i64 x3]]
  have HC := Lib.hid H
  have HP := Lib.hid (pairof_calls (n := 4) (c := c) (o := 0) c0 c1 (by omega) (by omega))
  have HQ := Lib.hid (pairof_calls (n := 2) (c := c - 2) (o := 2) c2 c3 (by omega) (by omega))
  clear ho hen H
  go_enter Tryz.func201, Tryz.ntmps201
  go_wp2_with fail
  go_region_held3 (fun W => W.cell? ⟨bx, 0, none⟩ = some (.func (.func F) #[] #[]) ∧ W.cell? ⟨b, 0, none⟩ = some (.int .i64 x0) ∧ W.cell? ⟨b, 1, none⟩ = some (.int .i64 x1) ∧ W.cell? ⟨b, 2, none⟩ = some (.int .i64 x2) ∧ W.cell? ⟨b, 3, none⟩ = some (.int .i64 x3)) (first | with_reducible exact ⟨hm.cell (x := ⟨bx, 0, none⟩) (by simp) hb, hm.cell (x := ⟨b, 0, none⟩) (by simp) c0, hm.cell (x := ⟨b, 1, none⟩) (by simp) c1, hm.cell (x := ⟨b, 2, none⟩) (by simp) c2, hm.cell (x := ⟨b, 3, none⟩) (by simp) c3⟩ | with_reducible exact ⟨(hm.far (far_alloc _ _)).cell (x := ⟨bx, 0, none⟩) (by simp) hb, (hm.far (far_alloc _ _)).cell (x := ⟨b, 0, none⟩) (by simp) c0, (hm.far (far_alloc _ _)).cell (x := ⟨b, 1, none⟩) (by simp) c1, (hm.far (far_alloc _ _)).cell (x := ⟨b, 2, none⟩) (by simp) c2, (hm.far (far_alloc _ _)).cell (x := ⟨b, 3, none⟩) (by simp) c3⟩ | fail)
    (first | ((with_reducible refine (HP.out _ hm).mono ?_); rintro e w2 ⟨rfl, hm⟩) | ((with_reducible refine (HQ.out _ hm).mono ?_); rintro e w2 ⟨rfl, hm⟩) | ((with_reducible refine (HC.out _ hm).mono ?_); rintro e w2 ⟨rfl, hm⟩) | ((with_reducible refine (truth_calls _ _).mono ?_); rintro e w2 ⟨rfl, rfl⟩) | fail)
  go_wp2
  go_ret2
  exact ⟨_, _, _, rfl, rfl, sl_one _ _ _, hm.far (far_alloc _ _)⟩
set_option maxHeartbeats 4000000 in
set_option maxRecDepth 100000 in
theorem product_does {w : World} {b c bx : Nat} {x0 x1 y0 y1 : Int} {F : FuncId} (ho : Ow w b [x0, x1] c) (hb : w.cell? ⟨bx, 0, none⟩ = some (.func (.func F) #[] #[])) (hen : ∀ xs W, (callFunc F xs).run Tryz.prog W = .ok (.enter F xs) W)
    (H : Rt w F #[.int .i64 x0, .int .i64 x1] (.agg #[.int .i64 y0, .int .i64 y1])) :
    Calls Tryz.prog 202 #[.slice (some ⟨b, 0, none⟩) 2 c, Pt bx] w (Gives w [y0, y1] 0) := by
  have c0 : w.cell? ⟨b, 0, none⟩ = some (.int .i64 x0) := ho.cell 0 (by simp)
  have c1 : w.cell? ⟨b, 1, none⟩ = some (.int .i64 x1) := ho.cell 1 (by simp)
  have hm : Mod [] w w.drew := (Mod.refl [] w).drew
  have hcap : 2 ≤ c := by obtain ⟨_, _, _, h, _⟩ := ho; exact h
  have he := hen #[.int .i64 x0, .int .i64 x1]
  have HC := Lib.hid H
  clear ho hen H
  go_enter Tryz.func202, Tryz.ntmps202
  go_wp2_with fail
  go_region_held3 (fun W => W.cell? ⟨bx, 0, none⟩ = some (.func (.func F) #[] #[]) ∧ W.cell? ⟨b, 0, none⟩ = some (.int .i64 x0) ∧ W.cell? ⟨b, 1, none⟩ = some (.int .i64 x1)) (first | with_reducible exact ⟨hm.cell (x := ⟨bx, 0, none⟩) (by simp) hb, hm.cell (x := ⟨b, 0, none⟩) (by simp) c0, hm.cell (x := ⟨b, 1, none⟩) (by simp) c1⟩ | with_reducible exact ⟨(hm.far (far_alloc _ _)).cell (x := ⟨bx, 0, none⟩) (by simp) hb, (hm.far (far_alloc _ _)).cell (x := ⟨b, 0, none⟩) (by simp) c0, (hm.far (far_alloc _ _)).cell (x := ⟨b, 1, none⟩) (by simp) c1⟩ | fail)
    (first | ((with_reducible refine (HC.out _ hm).mono ?_); rintro e w2 ⟨rfl, hm⟩) | ((with_reducible refine (cells_calls _ _ _).mono ?_); rintro e w2 ⟨A, m, cap, rfl, hmx, hsl, hm2⟩; have hm := hm.far hm2) | fail)
  go_wp2
  go_ret2
  exact ⟨_, _, _, rfl, rfl, hsl, hm⟩
set_option maxHeartbeats 4000000 in
set_option maxRecDepth 100000 in
theorem division_does {w : World} {b c bx : Nat} {x0 x1 x2 y0 y1 er : Int} {F : FuncId} (ho : Ow w b [x0, x1, x2] c) (hb : w.cell? ⟨bx, 0, none⟩ = some (.func (.func F) #[] #[])) (hen : ∀ xs W, (callFunc F xs).run Tryz.prog W = .ok (.enter F xs) W)
    (H : Rt w F #[.agg #[.int .i64 x0, .int .i64 x1], .int .i64 x2] (.tuple #[.int .i64 y0, .int .i64 y1, .int .i64 er])) :
    Calls Tryz.prog 204 #[.slice (some ⟨b, 0, none⟩) 3 c, Pt bx] w (Gives w [y0, y1] er) := by
  have c0 : w.cell? ⟨b, 0, none⟩ = some (.int .i64 x0) := ho.cell 0 (by simp)
  have c1 : w.cell? ⟨b, 1, none⟩ = some (.int .i64 x1) := ho.cell 1 (by simp)
  have c2 : w.cell? ⟨b, 2, none⟩ = some (.int .i64 x2) := ho.cell 2 (by simp)
  have hm : Mod [] w w.drew := (Mod.refl [] w).drew
  have hcap : 3 ≤ c := by obtain ⟨_, _, _, h, _⟩ := ho; exact h
  have he := hen #[.agg #[.int .i64 x0, .int .i64 x1], .int .i64 x2]
  have HC := Lib.hid H
  have HP := Lib.hid (pairof_calls (n := 3) (c := c) (o := 0) c0 c1 (by omega) (by omega))
  clear ho hen H
  go_enter Tryz.func204, Tryz.ntmps204
  go_wp2_with fail
  go_region_held3 (fun W => W.cell? ⟨bx, 0, none⟩ = some (.func (.func F) #[] #[]) ∧ W.cell? ⟨b, 0, none⟩ = some (.int .i64 x0) ∧ W.cell? ⟨b, 1, none⟩ = some (.int .i64 x1) ∧ W.cell? ⟨b, 2, none⟩ = some (.int .i64 x2)) (first | with_reducible exact ⟨hm.cell (x := ⟨bx, 0, none⟩) (by simp) hb, hm.cell (x := ⟨b, 0, none⟩) (by simp) c0, hm.cell (x := ⟨b, 1, none⟩) (by simp) c1, hm.cell (x := ⟨b, 2, none⟩) (by simp) c2⟩ | with_reducible exact ⟨(hm.far (far_alloc _ _)).cell (x := ⟨bx, 0, none⟩) (by simp) hb, (hm.far (far_alloc _ _)).cell (x := ⟨b, 0, none⟩) (by simp) c0, (hm.far (far_alloc _ _)).cell (x := ⟨b, 1, none⟩) (by simp) c1, (hm.far (far_alloc _ _)).cell (x := ⟨b, 2, none⟩) (by simp) c2⟩ | fail)
    (first | ((with_reducible refine (HP.out _ hm).mono ?_); rintro e w2 ⟨rfl, hm⟩) | ((with_reducible refine (HC.out _ hm).mono ?_); rintro e w2 ⟨rfl, hm⟩) | fail)
  go_wp2
  go_ret2
  exact ⟨_, _, _, rfl, rfl, sl_two _ _ _ _, hm.far (far_alloc _ _)⟩
end Go.Proofs.YtegcecpmdgljpaaGreatDoor
