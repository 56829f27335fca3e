/- Layer 13: what the operations on cells, pairs and real numbers do. Condition: the cells are cells. -/
import Derived.Test.YtegcecpmdgljpaaGreatDoorUN
import Derived.Test.YtegcecpmdgljpaaGreatDoorMGC
import Derived.Test.YtegcecpmdgljpaaGreatDoorMGH
namespace Go.Proofs.YtegcecpmdgljpaaGreatDoor
open Go.RowKit Ieee
set_option linter.unusedVariables false

/-- Operation n of the cells X gives P and the error e, whatever the rest of the stack is; the rest of the state is μ' then. -/
def Uni (n : Int) (k : Nat) (X : List Int) (μ : Mu) (P : List Int) (e : Int) (μ' : Mu) : Prop := ∀ (a : Ad) (R : List Int), Act13 a n k R X μ ⟨P, e, R, μ'⟩
set_option maxRecDepth 100000 in
theorem cellop1_does {w : World} {b2 : Nat} {n x : Int} (hc : w.cell? ⟨b2, 0, none⟩ = some (.int .i64 n)) : Rt w 87 #[.int .i64 x, Pt b2] (.tuple #[.int .i64 (oneV n x), .int .i64 (oneE n)]) := by
  intro W hW
  have hc := hW.cell (x := ⟨b2, 0, none⟩) (by simp) hc
  have HC := Lib.hid (fun W => one_calls n x W)
  go_enter Tryz.func87, Tryz.ntmps87
  go_wp2_with (first | ((with_reducible refine (HC.out _).mono ?_); rintro e w' ⟨rfl, hx⟩) | fail)
  go_ret2
  exact ⟨rfl, hx ▸ hW⟩
set_option maxRecDepth 100000 in
theorem cellop2_does {w : World} {b2 : Nat} {n x y : Int} (hc : w.cell? ⟨b2, 0, none⟩ = some (.int .i64 n)) : Rt w 90 #[.int .i64 x, .int .i64 y, Pt b2] (.tuple #[.int .i64 (twoV n x y), .int .i64 (twoE n y)]) := by
  intro W hW
  have hc := hW.cell (x := ⟨b2, 0, none⟩) (by simp) hc
  have HC := Lib.hid (fun W => two_calls n x y W)
  go_enter Tryz.func90, Tryz.ntmps90
  go_wp2_with (first | ((with_reducible refine (HC.out _).mono ?_); rintro e w' ⟨rfl, hx⟩) | fail)
  go_ret2
  exact ⟨rfl, hx ▸ hW.far (far_alloc _ _)⟩
/-- What an operation on two real numbers gives. -/
def realV (n x y : Int) : Int := if n = 3 then resOf (double.add (fbits x) (fbits y)) else if n = 4 then resOf (double.sub (fbits x) (fbits y)) else if n = 5 then resOf (double.mul (fbits x) (fbits y)) else if n = 6 then resOf (double.div (fbits x) (fbits y)) else if n = 7 then resOf (minW (fbits x) (fbits y)) else if n = 8 then resOf (maxW (fbits x) (fbits y)) else if n = 9 then truthI (double.order (fbits x) (fbits y) == some .lt) else truthI (double.order (fbits x) (fbits y) == some .eq)
def real1V (n x : Int) : Int := if n = 1 then cellOf (negW (fbits x)) else cellOf (absW (fbits x))
theorem real_two (n x y : Int) (h : 3 ≤ n ∧ n ≤ 10) (W : World) : Calls Tryz.prog 97 #[.int .i64 n, .int .i64 x, .int .i64 y] W fun e w' => e = .returned (.tuple #[.int .i64 (realV n x y), .int .i64 0]) ∧ Ext W w' := by
  rcases (show n = 3 ∨ n = 4 ∨ n = 5 ∨ n = 6 ∨ n = 7 ∨ n = 8 ∨ n = 9 ∨ n = 10 by omega) with rfl | rfl | rfl | rfl | rfl | rfl | rfl | rfl
  · have e : realV 3 x y = resOf (double.add (fbits x) (fbits y)) := by unfold realV; rw [if_pos rfl]
    rw [e]; exact two_add x y W
  · have e : realV 4 x y = resOf (double.sub (fbits x) (fbits y)) := by unfold realV; rw [if_neg (by decide), if_pos rfl]
    rw [e]; exact two_sub x y W
  · have e : realV 5 x y = resOf (double.mul (fbits x) (fbits y)) := by unfold realV; rw [if_neg (by decide), if_neg (by decide), if_pos rfl]
    rw [e]; exact two_mul x y W
  · have e : realV 6 x y = resOf (double.div (fbits x) (fbits y)) := by unfold realV; rw [if_neg (by decide), if_neg (by decide), if_neg (by decide), if_pos rfl]
    rw [e]; exact two_quo x y W
  · have e : realV 7 x y = resOf (minW (fbits x) (fbits y)) := by unfold realV; rw [if_neg (by decide), if_neg (by decide), if_neg (by decide), if_neg (by decide), if_pos rfl]
    rw [e]; exact two_min x y W
  · have e : realV 8 x y = resOf (maxW (fbits x) (fbits y)) := by unfold realV; rw [if_neg (by decide), if_neg (by decide), if_neg (by decide), if_neg (by decide), if_neg (by decide), if_pos rfl]
    rw [e]; exact two_max x y W
  · have e : realV 9 x y = truthI (double.order (fbits x) (fbits y) == some .lt) := by unfold realV; rw [if_neg (by decide), if_neg (by decide), if_neg (by decide), if_neg (by decide), if_neg (by decide), if_neg (by decide), if_pos rfl]
    rw [e]; exact two_less x y W
  · have e : realV 10 x y = truthI (double.order (fbits x) (fbits y) == some .eq) := by unfold realV; rw [if_neg (by decide), if_neg (by decide), if_neg (by decide), if_neg (by decide), if_neg (by decide), if_neg (by decide), if_neg (by decide)]
    rw [e]; exact two_equal x y W
theorem real_one (n x : Int) (h : 1 ≤ n ∧ n ≤ 2) (W : World) : Calls Tryz.prog 95 #[.int .i64 n, .int .i64 x] W fun e w' => e = .returned (.tuple #[.int .i64 (real1V n x), .int .i64 0]) ∧ W = w' := by
  rcases (show n = 1 ∨ n = 2 by omega) with rfl | rfl
  · have e : real1V 1 x = cellOf (negW (fbits x)) := by unfold real1V; rw [if_pos rfl]
    rw [e]; exact one_neg x W
  · have e : real1V 2 x = cellOf (absW (fbits x)) := by unfold real1V; rw [if_neg (by decide)]
    rw [e]; exact one_abs x W
set_option maxRecDepth 100000 in
theorem realop1_does {w : World} {b2 : Nat} {n x : Int} (hc : w.cell? ⟨b2, 0, none⟩ = some (.int .i64 n)) (hn : 1 ≤ n ∧ n ≤ 2) : Rt w 94 #[.int .i64 x, Pt b2] (.tuple #[.int .i64 (real1V n x), .int .i64 0]) := by
  intro W hW
  have hc := hW.cell (x := ⟨b2, 0, none⟩) (by simp) hc
  have HC := Lib.hid (fun W => real_one n x hn W)
  go_enter Tryz.func94, Tryz.ntmps94
  go_wp2_with (first | ((with_reducible refine (HC.out _).mono ?_); rintro e w' ⟨rfl, hx⟩) | fail)
  go_ret2
  exact ⟨rfl, hx ▸ hW⟩
set_option maxRecDepth 100000 in
theorem realop2_does {w : World} {b2 : Nat} {n x y : Int} (hc : w.cell? ⟨b2, 0, none⟩ = some (.int .i64 n)) (hn : 3 ≤ n ∧ n ≤ 10) : Rt w 96 #[.int .i64 x, .int .i64 y, Pt b2] (.tuple #[.int .i64 (realV n x y), .int .i64 0]) := by
  intro W hW
  have hc := hW.cell (x := ⟨b2, 0, none⟩) (by simp) hc
  have HC := Lib.hid (fun W => real_two n x y hn W)
  go_enter Tryz.func96, Tryz.ntmps96
  go_wp2_with (first | ((with_reducible refine (HC.out _).mono ?_); rintro e w' ⟨rfl, hx⟩) | fail)
  go_ret2
  exact ⟨rfl, hW.far (Mod.of_below hx.1)⟩
set_option maxRecDepth 100000 in
theorem always_does {w : World} {b2 : Nat} {F : FuncId} {x y : Int} (hc : w.cell? ⟨b2, 0, none⟩ = some (.func (.func F) #[] #[])) (hen : ∀ xs W, (callFunc F xs).run Tryz.prog W = .ok (.enter F xs) W) (H : Rt w F #[.int .i64 x] (.int .i64 y)) :
    Rt w 208 #[.int .i64 x, Pt b2] (.tuple #[.int .i64 y, .int .i64 0]) := by
  intro W hW
  have hc := hW.cell (x := ⟨b2, 0, none⟩) (by simp) hc
  have he := hen #[.int .i64 x]
  have HC := Lib.hid (H W hW)
  clear H hen
  go_enter Tryz.func208, Tryz.ntmps208
  go_wp2_with (first | ((with_reducible refine (HC.out).mono ?_); rintro e w' ⟨rfl, hx⟩) | fail)
  go_ret2
  exact ⟨rfl, hx⟩
theorem aligned_does (x : Int) (w : World) : Rt w 126 #[.int .i64 x] (.int .i64 (bits .andNot .i64 (wrap64 (wrap64 (x + 8) - 1)) 7)) := by
  intro W hW
  go_enter Tryz.func126, Tryz.ntmps126
  go_wp2
  go_ret
  exact ⟨rfl, hW⟩
theorem bytes_does (x : Int) (w : World) : Rt w 127 #[.int .i64 x] (.int .i64 (wrap64 (x * 8))) := by
  intro W hW
  go_enter Tryz.func127, Tryz.ntmps127
  go_wp2
  go_ret
  exact ⟨rfl, hW⟩
theorem act_c1 (n x : Int) (hn : 1 ≤ n ∧ n ≤ 10) (μ : Mu) : Uni n 1 [x] μ [oneV n x] 0 μ := fun a R => by
  refine act_one (G := 185) (d := .box 87 (.int .i64 n)) (by unfold shp; rw [if_pos hn]; rfl) ?_
  rintro w T b c bx dv h ho hb hc ⟨b2, _, h2, rfl⟩
  have e : oneE n = 0 := if_pos hn
  have k := cellop1_does (x := x) h2
  rw [e] at k
  exact (ofcell_does ho hc (fun xs W => by kernel_rfl) (p := #[]) (q := #[Pt b2]) k).mono fun e w' hg => hg.acted h
theorem act_c2 (n x y : Int) (hn : 11 ≤ n ∧ n ≤ 27) (μ : Mu) : Uni n 2 [x, y] μ [twoV n x y] (twoE n y) μ := fun a R => by
  refine act_one (G := 187) (d := .box 90 (.int .i64 n)) (by unfold shp; rw [if_neg (by omega), if_pos hn]; rfl) ?_
  rintro w T b c bx dv h ho hb hc ⟨b2, _, h2, rfl⟩
  exact (ofcells_does ho hc (fun xs W => by kernel_rfl) (p := #[]) (q := #[Pt b2]) (cellop2_does (x := x) (y := y) h2)).mono fun e w' hg => hg.acted h
theorem act_r1 (n x : Int) (hn : 61 ≤ n ∧ n ≤ 62) (μ : Mu) : Uni n 1 [x] μ [real1V (n - 60) x] 0 μ := fun a R => by
  refine act_one (G := 185) (d := .box 94 (.int .i64 (n - 60))) (by unfold shp; rw [if_neg (by omega), if_neg (by omega), if_neg (by omega), if_pos hn]; rfl) ?_
  rintro w T b c bx dv h ho hb hc ⟨b2, _, h2, rfl⟩
  exact (ofcell_does ho hc (fun xs W => by kernel_rfl) (p := #[]) (q := #[Pt b2]) (realop1_does (x := x) h2 (by omega))).mono fun e w' hg => hg.acted h
theorem act_r2 (n x y : Int) (hn : 63 ≤ n ∧ n ≤ 70) (μ : Mu) : Uni n 2 [x, y] μ [realV (n - 60) x y] 0 μ := fun a R => by
  refine act_one (G := 187) (d := .box 96 (.int .i64 (n - 60))) (by unfold shp; rw [if_neg (by omega), if_neg (by omega), if_neg (by omega), if_neg (by omega), if_pos hn]; rfl) ?_
  rintro w T b c bx dv h ho hb hc ⟨b2, _, h2, rfl⟩
  exact (ofcells_does ho hc (fun xs W => by kernel_rfl) (p := #[]) (q := #[Pt b2]) (realop2_does (x := x) (y := y) h2 (by omega))).mono fun e w' hg => hg.acted h
theorem act_71 (x : Int) (μ : Mu) : Uni 71 1 [x] μ [cellOf (ofF x)] 0 μ := fun a R => by
  refine act_one (G := 185) (d := .box 208 (.func (.func 124) #[] #[])) rfl ?_
  rintro w T b c bx dv h ho hb hc ⟨b2, _, h2, rfl⟩
  exact (ofcell_does ho hc (fun xs W => by kernel_rfl) (p := #[]) (q := #[Pt b2]) (always_does h2 (fun xs W => by kernel_rfl) (Rt.same (fun W => realof_calls x W)))).mono fun e w' hg => hg.acted h
theorem act_87 (x : Int) (μ : Mu) : Uni 87 1 [x] μ [bits .andNot .i64 (wrap64 (wrap64 (x + 8) - 1)) 7] 0 μ := fun a R => by
  refine act_one (G := 185) (d := .box 208 (.func (.func 126) #[] #[])) rfl ?_
  rintro w T b c bx dv h ho hb hc ⟨b2, _, h2, rfl⟩
  exact (ofcell_does ho hc (fun xs W => by kernel_rfl) (p := #[]) (q := #[Pt b2]) (always_does h2 (fun xs W => by kernel_rfl) (aligned_does x w))).mono fun e w' hg => hg.acted h
theorem act_88 (x : Int) (μ : Mu) : Uni 88 1 [x] μ [wrap64 (x * 8)] 0 μ := fun a R => by
  refine act_one (G := 185) (d := .box 208 (.func (.func 127) #[] #[])) rfl ?_
  rintro w T b c bx dv h ho hb hc ⟨b2, _, h2, rfl⟩
  exact (ofcell_does ho hc (fun xs W => by kernel_rfl) (p := #[]) (q := #[Pt b2]) (always_does h2 (fun xs W => by kernel_rfl) (bytes_does x w))).mono fun e w' hg => hg.acted h
theorem to_all (a : Int) : ∃ v e, (e = 0 ∨ e = -43) ∧ I64 v ∧ ∀ W, Calls Tryz.prog 125 #[.int .i64 a] W fun e' w' => e' = .returned (.tuple #[.int .i64 v, .int .i64 e]) ∧ W = w' := by
  rcases fbits_split a with n | ⟨s, r, hx, hi⟩
  · exact ⟨0, -43, Or.inr rfl, by unfold I64; omega, fun W => to_out a (Or.inl n) W⟩
  · by_cases c : r = 9218868437227405312
    · subst c
      exact ⟨0, -43, Or.inr rfl, by unfold I64; omega, fun W => to_out a (Or.inr (Or.inl ⟨s, by rw [hx]; exact read_inf s⟩)) W⟩
    · have hr : r < 9218868437227405312 := by omega
      have hc := rung_can hr
      have hrd : double.read (fbits a) = .number s (rM r) (rE r) := by rw [hx]; exact read_fin s hr
      by_cases c1 : rE r < 11
      · refine ⟨_, 0, Or.inl rfl, ?_, fun W => to_in a s _ _ hrd hc.lt c1 W⟩
        have ht := tr_lt hc.lt c1
        unfold I64
        cases s <;> simp <;> omega
      · have ht : 4503599627370496 ≤ rM r := by
          rcases hc.top with k | k
          · exact k
          · omega
        by_cases c2 : s = true ∧ rM r = 4503599627370496 ∧ rE r = 11
        · obtain ⟨rfl, e1, e2⟩ := c2
          rw [e1, e2] at hrd
          exact ⟨_, 0, Or.inl rfl, by unfold I64; omega, fun W => to_low a hrd W⟩
        · exact ⟨0, -43, Or.inr rfl, by unfold I64; omega, fun W => to_out a (Or.inr (Or.inr ⟨s, _, _, hrd, ht, by omega, c2⟩)) W⟩
theorem act_72 (x : Int) (μ : Mu) : ∃ v e, (e = 0 ∨ e = -43) ∧ I64 v ∧ Uni 72 1 [x] μ [v] e μ := by
  obtain ⟨v, e, he, hI, hc⟩ := to_all x
  refine ⟨v, e, he, hI, fun a R => ?_⟩
  refine act_one (G := 185) (d := .fn 125) rfl ?_
  rintro w T b c bx dv h ho hb hc' rfl
  exact (ofcell_does ho hc' (fun xs W => by kernel_rfl) (p := #[]) (q := #[]) (Rt.same hc)).mono fun e w' hg => hg.acted h
theorem act_44 (x y z u : Int) (hx : I64 x) (hy : I64 y) (hz : I64 z) (hu : I64 u) (μ : Mu) : Uni 44 4 [x, y, z, u] μ [lo (V x y + V z u), hi (V x y + V z u)] (0) μ := fun a R => by
  refine act_one (G := 196) (d := .fn 102) rfl ?_
  rintro w T b c bx dv h ho hb hc rfl
  exact (ofpairs_does ho hc (fun xs W => by kernel_rfl) (Rt.ext (fun W => add_calls W x y z u hx hy hz hu W (Ext.refl W)))).mono fun e w' hg => hg.acted h
set_option maxHeartbeats 2000000 in
set_option maxRecDepth 100000 in
theorem sub_does {x y z u : Int} (hx : I64 x) (hy : I64 y) (hz : I64 z) (hu : I64 u) (w : World) : Rt w 103 #[.agg #[.int .i64 x, .int .i64 y], .agg #[.int .i64 z, .int .i64 u]] (.agg #[.int .i64 (lo (V x y + V (lo (-V z u)) (hi (-V z u)))), .int .i64 (hi (V x y + V (lo (-V z u)) (hi (-V z u))))]) := by
  intro W hW
  obtain ⟨p0, hp0⟩ : ∃ p, p = lo (-V z u) := ⟨_, rfl⟩
  obtain ⟨p1, hp1⟩ : ∃ p, p = hi (-V z u) := ⟨_, rfl⟩
  have K1 := Lib.hid (fun W3 => (Rt.ext (fun W => neg_calls W z u hz hu W (Ext.refl W)) : Rt W3 _ _ _))
  rw [← hp0, ← hp1] at K1 ⊢
  have i0 : I64 p0 := by rw [hp0]; exact lo_i64 _
  have i1 : I64 p1 := by rw [hp1]; exact hi_i64 _
  obtain ⟨q0, hq0⟩ : ∃ p, p = lo (V x y + V p0 p1) := ⟨_, rfl⟩
  obtain ⟨q1, hq1⟩ : ∃ p, p = hi (V x y + V p0 p1) := ⟨_, rfl⟩
  have K2 := Lib.hid (fun W3 => (Rt.ext (fun W => add_calls W x y p0 p1 hx hy i0 i1 W (Ext.refl W)) : Rt W3 _ _ _))
  rw [← hq0, ← hq1] at K2 ⊢
  clear hp0 hp1 hq0 hq1 i0 i1 hx hy hz hu
  have o1 : Own (W.alloc (.cells #[.int .i64 x, .int .i64 y] 44)) W.heap.size (.int .i64 x) (.int .i64 y) := Own.last
  obtain ⟨W1, hW1⟩ : ∃ V, V = W.alloc (.cells #[.int .i64 x, .int .i64 y] 44) := ⟨_, rfl⟩
  have m1 : Mod [] W W1 := by rw [hW1]; exact far_alloc _ _
  have s1 : W1.heap.size = W.heap.size + 1 := by rw [hW1, size_alloc]
  rw [← hW1] at o1
  have o2 : Own (W1.alloc (.cells #[.int .i64 z, .int .i64 u] 44)) W1.heap.size (.int .i64 z) (.int .i64 u) := Own.last
  obtain ⟨W2, hW2⟩ : ∃ V, V = W1.alloc (.cells #[.int .i64 z, .int .i64 u] 44) := ⟨_, rfl⟩
  have m2 : Mod [] W1 W2 := by rw [hW2]; exact far_alloc _ _
  have s2 : W2.heap.size = W1.heap.size + 1 := by rw [hW2, size_alloc]
  rw [← hW2] at o2
  have o3 : Own (W2.alloc (.cells #[.int .i64 0, .int .i64 0] 44)) W2.heap.size (.int .i64 0) (.int .i64 0) := Own.last
  obtain ⟨W3, hW3⟩ : ∃ V, V = W2.alloc (.cells #[.int .i64 0, .int .i64 0] 44) := ⟨_, rfl⟩
  have m3 : Mod [] W2 W3 := by rw [hW3]; exact far_alloc _ _
  rw [← hW3] at o3
  have a1 := (o1.mod m2 (by simp)).mod m3 (by simp)
  have a2 := o2.mod m3 (by simp)
  rw [s1] at a2 s2
  rw [s2] at o3
  have M3 := hW.far ((m1.far m2).far m3)
  have hs3 := (m1.far m2).size
  have r1 : W.heap.size ≠ W.heap.size + 1 + 1 := by omega
  have r2 : W.heap.size + 1 ≠ W.heap.size + 1 + 1 := by omega
  have hm : Mod [] W3 W3.drew := (Mod.refl [] W3).drew
  have q1 := K1.out W3
  have q2 := K2.out W3
  have HK := Lib.hid (And.intro q1 q2)
  clear q1 q2 K1 K2
  have g0 := a1.c0
  have g1 := a1.c1
  have g2 := a2.c0
  have g3 := a2.c1
  go_enter Tryz.func103, Tryz.ntmps103
  go_upto_region 1 with fail
  rw [← hW1, ← hW2, ← hW3]
  clear hW1 hW2 hW3 m1 m2 m3 s1 s2 o1 o2
  go_region_held3 (fun V' => V'.cell? ⟨W.heap.size, 0, none⟩ = some (.int .i64 x) ∧ V'.cell? ⟨W.heap.size, 1, none⟩ = some (.int .i64 y) ∧ V'.cell? ⟨W.heap.size + 1, 0, none⟩ = some (.int .i64 z) ∧ V'.cell? ⟨W.heap.size + 1, 1, none⟩ = some (.int .i64 u))
    (first
      | with_reducible exact ⟨hm.cell (x := ⟨W.heap.size, 0, none⟩) (by simp) g0, hm.cell (x := ⟨W.heap.size, 1, none⟩) (by simp) g1, hm.cell (x := ⟨W.heap.size + 1, 0, none⟩) (by simp) g2, hm.cell (x := ⟨W.heap.size + 1, 1, none⟩) (by simp) g3⟩
      | with_reducible exact ⟨(set2_mod _ _ _ _).cell (x := ⟨W.heap.size, 0, none⟩) (by simpa using r1) (hm.cell (x := ⟨W.heap.size, 0, none⟩) (by simp) g0), (set2_mod _ _ _ _).cell (x := ⟨W.heap.size, 1, none⟩) (by simpa using r1) (hm.cell (x := ⟨W.heap.size, 1, none⟩) (by simp) g1), (set2_mod _ _ _ _).cell (x := ⟨W.heap.size + 1, 0, none⟩) (by simp) (hm.cell (x := ⟨W.heap.size + 1, 0, none⟩) (by simp) g2), (set2_mod _ _ _ _).cell (x := ⟨W.heap.size + 1, 1, none⟩) (by simp) (hm.cell (x := ⟨W.heap.size + 1, 1, none⟩) (by simp) g3)⟩
      | fail)
    (first
      | ((with_reducible refine (HK.out.1 _ hm).mono ?_); rintro e w2 ⟨rfl, hm⟩)
      | ((with_reducible refine (HK.out.2 _ hm).mono ?_); rintro e w2 ⟨rfl, hm⟩; have t0 := (o3.mod hm (by simp)).c0; have t1 := (o3.mod hm (by simp)).c1; have t2 := (o3.mod hm (by simp)).f0; have t3 := (o3.mod hm (by simp)).f1)
      | fail)
  go_wp2
  exact bodyPost_ret (v := .agg #[.int .i64 q0, .int .i64 q1]) (by simp [results, Tryz.results103, go_sem, t0, t1]) rfl ⟨rfl, (M3.far hm).then (set2_mod _ _ _ _) (by simp; have := hW.size; omega)⟩
theorem act_45 (x y z u : Int) (hx : I64 x) (hy : I64 y) (hz : I64 z) (hu : I64 u) (μ : Mu) : Uni 45 4 [x, y, z, u] μ [lo (V x y + V (lo (-V z u)) (hi (-V z u))), hi (V x y + V (lo (-V z u)) (hi (-V z u)))] 0 μ := fun a R => by
  refine act_one (G := 196) (d := .fn 103) rfl ?_
  rintro w T b c bx dv h ho hb hc rfl
  exact (ofpairs_does ho hc (fun xs W => by kernel_rfl) (sub_does hx hy hz hu w)).mono fun e w' hg => hg.acted h
theorem act_46 (x y : Int) (hx : I64 x) (hy : I64 y) (μ : Mu) : Uni 46 2 [x, y] μ [lo (-V x y), hi (-V x y)] (0) μ := fun a R => by
  refine act_one (G := 200) (d := .fn 104) rfl ?_
  rintro w T b c bx dv h ho hb hc rfl
  exact (ofpair_does ho hc (fun xs W => by kernel_rfl) (Rt.ext (fun W => neg_calls W x y hx hy W (Ext.refl W)))).mono fun e w' hg => hg.acted h
set_option maxRecDepth 100000 in
theorem abs_does {x y : Int} (hx : I64 x) (hy : I64 y) (w : World) : Rt w 106 #[.agg #[.int .i64 x, .int .i64 y]] (.agg #[.int .i64 (if y < 0 then lo (-V x y) else x), .int .i64 (if y < 0 then hi (-V x y) else y)]) := by
  intro W hW
  have K1 := Lib.hid (fun W => neg_calls W x y hx hy W (Ext.refl W))
  have m1 := far_alloc W (.cells #[.int .i64 x, .int .i64 y] 44)
  have s1 := size_alloc W (.cells #[.int .i64 x, .int .i64 y] 44)
  have o1 : Own (W.alloc (.cells #[.int .i64 x, .int .i64 y] 44)) W.heap.size (.int .i64 x) (.int .i64 y) := Own.last
  obtain ⟨W1, hW1⟩ : ∃ V, V = W.alloc (.cells #[.int .i64 x, .int .i64 y] 44) := ⟨_, rfl⟩
  rw [← hW1] at m1 s1 o1
  have m2 := far_alloc W1 (.cells #[.int .i64 0, .int .i64 0] 44)
  have o2 : Own (W1.alloc (.cells #[.int .i64 0, .int .i64 0] 44)) W1.heap.size (.int .i64 0) (.int .i64 0) := Own.last
  obtain ⟨W2, hW2⟩ : ∃ V, V = W1.alloc (.cells #[.int .i64 0, .int .i64 0] 44) := ⟨_, rfl⟩
  rw [← hW2] at m2 o2
  rw [s1] at o2
  have a1 := o1.mod m2 (by simp)
  have M := hW.far (m1.far m2)
  have hsz := hW.size
  by_cases hn : y < 0
  · rw [if_pos hn, if_pos hn]
    obtain ⟨p0, hp0⟩ : ∃ p, p = lo (-V x y) := ⟨_, rfl⟩
    obtain ⟨p1, hp1⟩ : ∃ p, p = hi (-V x y) := ⟨_, rfl⟩
    rw [← hp0, ← hp1] at K1 ⊢
    obtain ⟨g0, g1, _, _, _⟩ := a1
    clear hp0 hp1 hx hy m1 m2 o1 s1
    go_enter Tryz.func106, Tryz.ntmps106
    go_upto_region 1 with fail
    rw [← hW1, ← hW2]
    clear hW1 hW2
    go_wp2_with fail
    refine (K1.out _).mono ?_
    rintro e w3 ⟨rfl, hx3⟩
    have hm := Mod.of_below hx3.1
    obtain ⟨t0, t1, t2, t3, _⟩ := o2.mod hm (by simp)
    have MM := (M.far hm).then (set2_mod w3 (W.heap.size + 1) (.int .i64 p0) (.int .i64 p1)) (by simp; omega)
    clear hx3 hm M
    go_wp2
    exact bodyPost_ret (v := .agg #[.int .i64 p0, .int .i64 p1]) (by simp [results, Tryz.results106, go_sem, t0, t1]) rfl ⟨rfl, MM⟩
  · rw [if_neg hn, if_neg hn]
    obtain ⟨g0, g1, _, _, _⟩ := a1
    obtain ⟨t0, t1, t2, t3, _⟩ := o2
    have MM := M.then (set2_mod W2 (W.heap.size + 1) (.int .i64 x) (.int .i64 y)) (by simp; omega)
    clear hx hy m1 m2 o1 s1 K1
    go_enter Tryz.func106, Tryz.ntmps106
    go_upto_region 1 with fail
    rw [← hW1, ← hW2]
    clear hW1 hW2
    go_wp2
    exact bodyPost_ret (v := .agg #[.int .i64 x, .int .i64 y]) (by simp [results, Tryz.results106, go_sem, t0, t1]) rfl ⟨rfl, MM⟩
theorem act_47 (x y : Int) (hx : I64 x) (hy : I64 y) (μ : Mu) : Uni 47 2 [x, y] μ [if y < 0 then lo (-V x y) else x, if y < 0 then hi (-V x y) else y] (0) μ := fun a R => by
  refine act_one (G := 200) (d := .fn 106) rfl ?_
  rintro w T b c bx dv h ho hb hc rfl
  exact (ofpair_does ho hc (fun xs W => by kernel_rfl) (abs_does hx hy w)).mono fun e w' hg => hg.acted h
theorem act_48 (x y z u : Int) (hx : I64 x) (hy : I64 y) (hz : I64 z) (hu : I64 u) (μ : Mu) : Uni 48 4 [x, y, z, u] μ [truth (decide (V x y < V z u))] (0) μ := fun a R => by
  refine act_one (G := 201) (d := .fn 108) rfl ?_
  rintro w T b c bx dv h ho hb hc rfl
  exact (comparison_does ho hc (fun xs W => by kernel_rfl) (Rt.ext (fun W => less_calls W x y z u hx hy hz hu W (Ext.refl W)))).mono fun e w' hg => hg.acted h
theorem act_49 (x y z u : Int) (hx : I64 x) (hy : I64 y) (hz : I64 z) (hu : I64 u) (μ : Mu) : Uni 49 4 [x, y, z, u] μ [truth (decide (W x y < W z u))] (0) μ := fun a R => by
  refine act_one (G := 201) (d := .fn 109) rfl ?_
  rintro w T b c bx dv h ho hb hc rfl
  exact (comparison_does ho hc (fun xs W => by kernel_rfl) (Rt.ext (fun W => uless_calls W x y z u hx hy hz hu W (Ext.refl W)))).mono fun e w' hg => hg.acted h
theorem eq_does (x y z u : Int) (w : World) : Rt w 110 #[.agg #[.int .i64 x, .int .i64 y], .agg #[.int .i64 z, .int .i64 u]] (.bool (x == z && y == u)) := by
  intro W hW
  have m1 := far_alloc W (.cells #[.int .i64 x, .int .i64 y] 44)
  have m2 := far_alloc (W.alloc (.cells #[.int .i64 x, .int .i64 y] 44)) (.cells #[.int .i64 z, .int .i64 u] 44)
  go_enter Tryz.func110, Tryz.ntmps110
  go_wp2
  go_ret
  exact ⟨rfl, hW.far (m1.far m2)⟩
theorem act_50 (x y z u : Int)  (μ : Mu) : Uni 50 4 [x, y, z, u] μ [truth (x == z && y == u)] (0) μ := fun a R => by
  refine act_one (G := 201) (d := .fn 110) rfl ?_
  rintro w T b c bx dv h ho hb hc rfl
  exact (comparison_does ho hc (fun xs W => by kernel_rfl) (eq_does x y z u w)).mono fun e w' hg => hg.acted h
theorem act_51 (x y : Int) (hx : I64 x) (hy : I64 y) (μ : Mu) : Uni 51 2 [x, y] μ [lo (2 * V x y), hi (2 * V x y)] (0) μ := fun a R => by
  refine act_one (G := 200) (d := .fn 111) rfl ?_
  rintro w T b c bx dv h ho hb hc rfl
  exact (ofpair_does ho hc (fun xs W => by kernel_rfl) (Rt.ext (fun W => twice_calls W x y hx hy W (Ext.refl W)))).mono fun e w' hg => hg.acted h
theorem act_52 (x y : Int) (hx : I64 x) (hy : I64 y) (μ : Mu) : Uni 52 2 [x, y] μ [lo (V x y / 2), hi (V x y / 2)] (0) μ := fun a R => by
  refine act_one (G := 200) (d := .fn 112) rfl ?_
  rintro w T b c bx dv h ho hb hc rfl
  exact (ofpair_does ho hc (fun xs W => by kernel_rfl) (Rt.ext (fun W => half_calls W x y hx hy W (Ext.refl W)))).mono fun e w' hg => hg.acted h
theorem act_53 (x y : Int) (hx : I64 x) (hy : I64 y) (μ : Mu) : Uni 53 2 [x, y] μ [lo (x * y), hi (x * y)] (0) μ := fun a R => by
  refine act_one (G := 202) (d := .fn 114) rfl ?_
  rintro w T b c bx dv h ho hb hc rfl
  exact (product_does ho hc (fun xs W => by kernel_rfl) (Rt.ext (fun W => mul_calls W x y hx hy W (Ext.refl W)))).mono fun e w' hg => hg.acted h
theorem act_54 (x y : Int) (hx : I64 x) (hy : I64 y) (μ : Mu) : Uni 54 2 [x, y] μ [lo (U x * U y), hi (U x * U y)] (0) μ := fun a R => by
  refine act_one (G := 202) (d := .fn 115) rfl ?_
  rintro w T b c bx dv h ho hb hc rfl
  exact (product_does ho hc (fun xs W => by kernel_rfl) (Rt.ext (fun W => umul_calls W x y hx hy W (Ext.refl W)))).mono fun e w' hg => hg.acted h
theorem act_55 (x y z : Int) (hx : I64 x) (hy : I64 y) (hz : I64 z) (μ : Mu) : Uni 55 3 [x, y, z] μ [okR (z == 0) (decide (W x y / U z ≤ 18446744073709551615)) (wrap64 (W x y % U z)), okR (z == 0) (decide (W x y / U z ≤ 18446744073709551615)) (lo (W x y / U z))] (okE (z == 0) (decide (W x y / U z ≤ 18446744073709551615))) μ := fun a R => by
  refine act_one (G := 204) (d := .fn 117) rfl ?_
  rintro w T b c bx dv h ho hb hc rfl
  exact (division_does ho hc (fun xs W => by kernel_rfl) (Rt.ext (fun W => udiv_calls W x y z hx hy hz W (Ext.refl W)))).mono fun e w' hg => hg.acted h
theorem act_56 (x y z : Int) (hx : I64 x) (hy : I64 y) (hz : I64 z) (μ : Mu) : Uni 56 3 [x, y, z] μ [okR (z == 0) (cel (FQ (V x y) z)) (FR (V x y) z), okR (z == 0) (cel (FQ (V x y) z)) (FQ (V x y) z)] (okE (z == 0) (cel (FQ (V x y) z))) μ := fun a R => by
  refine act_one (G := 204) (d := .fn 118) rfl ?_
  rintro w T b c bx dv h ho hb hc rfl
  exact (division_does ho hc (fun xs W => by kernel_rfl) (Rt.ext (fun W => floor_calls W x y z hx hy hz W (Ext.refl W)))).mono fun e w' hg => hg.acted h
theorem act_57 (x y z : Int) (hx : I64 x) (hy : I64 y) (hz : I64 z) (μ : Mu) : Uni 57 3 [x, y, z] μ [okR (z == 0) (cel ((V x y).tdiv z)) ((V x y).tmod z), okR (z == 0) (cel ((V x y).tdiv z)) ((V x y).tdiv z)] (okE (z == 0) (cel ((V x y).tdiv z))) μ := fun a R => by
  refine act_one (G := 204) (d := .fn 119) rfl ?_
  rintro w T b c bx dv h ho hb hc rfl
  exact (division_does ho hc (fun xs W => by kernel_rfl) (Rt.ext (fun W => trunc_calls W x y z hx hy hz W (Ext.refl W)))).mono fun e w' hg => hg.acted h
set_option maxHeartbeats 2000000 in
set_option maxRecDepth 100000 in
theorem wide_does {w : World} {b c : Nat} {x : Int} (hx : I64 x) (ho : Ow w b [x] c) : Calls Tryz.prog 98 #[.slice (some ⟨b, 0, none⟩) 1 c] w (Gives w [lo x, hi x] 0) := by
  have c0 : w.cell? ⟨b, 0, none⟩ = some (.int .i64 x) := ho.cell 0 (by simp)
  have K1 := Lib.hid (fun W => of_calls W x hx W (Ext.refl W))
  clear ho hx
  go_enter Tryz.func98, Tryz.ntmps98
  go_wp2_with fail
  refine (K1.out _).mono ?_
  rintro e w1 ⟨rfl, hx⟩
  have hm := Mod.of_below hx.1
  clear hx
  go_wp2_with fail
  refine (cells_calls _ _ _).mono ?_
  rintro e w2 ⟨A, m, cap, rfl, hmx, hsl, hm2⟩
  go_wp2
  go_ret2
  exact ⟨_, _, _, rfl, rfl, hsl, hm.far hm2⟩
theorem act_43 (x : Int) (hx : I64 x) (μ : Mu) : Uni 43 1 [x] μ [lo x, hi x] 0 μ := fun a R =>
  act_plain rfl fun w T b c h ho hb => (wide_does hx ho).mono fun e w' hg => hg.acted h
/-- The quotient and what is left of a product of two cells. -/
def scaleQ (x y z : Int) : Int := okR (z == 0) (cel (FQ (V (lo (x * y)) (hi (x * y))) z)) (FQ (V (lo (x * y)) (hi (x * y))) z)
def scaleR (x y z : Int) : Int := okR (z == 0) (cel (FQ (V (lo (x * y)) (hi (x * y))) z)) (FR (V (lo (x * y)) (hi (x * y))) z)
def scaleE (x y z : Int) : Int := okE (z == 0) (cel (FQ (V (lo (x * y)) (hi (x * y))) z))
/-- A row of two cells in a new block. -/
def GivesB (w : World) (x y er : Int) (e : Ending) (w' : World) : Prop := ∃ b cap, e = .returned (.tuple #[.slice (some ⟨b, 0, none⟩) 2 cap, .int .i64 er]) ∧ 2 ≤ cap ∧ Sl w' (some ⟨b, 0, none⟩) [x, y] ∧ Mod [] w w'
set_option maxHeartbeats 2000000 in
set_option maxRecDepth 100000 in
theorem scalemod_does {w : World} {b c : Nat} {x y z : Int} (hx : I64 x) (hy : I64 y) (hz : I64 z) (ho : Ow w b [x, y, z] c) : Calls Tryz.prog 121 #[.slice (some ⟨b, 0, none⟩) 3 c] w (GivesB w (scaleR x y z) (scaleQ x y z) (scaleE x y z)) := by
  have c0 : w.cell? ⟨b, 0, none⟩ = some (.int .i64 x) := ho.cell 0 (by simp)
  have c1 : w.cell? ⟨b, 1, none⟩ = some (.int .i64 y) := ho.cell 1 (by simp)
  have c2 : w.cell? ⟨b, 2, none⟩ = some (.int .i64 z) := ho.cell 2 (by simp)
  have K1 := Lib.hid ((Rt.ext (fun W => mul_calls W x y hx hy W (Ext.refl W)) : Rt w _ _ _))
  have K2 := Lib.hid ((Rt.ext (fun W => floor_calls W (lo (x * y)) (hi (x * y)) z (lo_i64 _) (hi_i64 _) hz W (Ext.refl W)) : Rt w _ _ _))
  have er : okR (z == 0) (cel (FQ (V (lo (x * y)) (hi (x * y))) z)) (FR (V (lo (x * y)) (hi (x * y))) z) = scaleR x y z := rfl
  have eq : okR (z == 0) (cel (FQ (V (lo (x * y)) (hi (x * y))) z)) (FQ (V (lo (x * y)) (hi (x * y))) z) = scaleQ x y z := rfl
  have ee : okE (z == 0) (cel (FQ (V (lo (x * y)) (hi (x * y))) z)) = scaleE x y z := rfl
  rw [er, eq, ee] at K2
  obtain ⟨p0, hp0⟩ : ∃ p, p = lo (x * y) := ⟨_, rfl⟩
  obtain ⟨p1, hp1⟩ : ∃ p, p = hi (x * y) := ⟨_, rfl⟩
  rw [← hp0, ← hp1] at K1 K2
  obtain ⟨q, hq⟩ : ∃ p, p = scaleQ x y z := ⟨_, rfl⟩
  obtain ⟨r, hr⟩ : ∃ p, p = scaleR x y z := ⟨_, rfl⟩
  obtain ⟨u, hu⟩ : ∃ p, p = scaleE x y z := ⟨_, rfl⟩
  rw [← hq, ← hr, ← hu] at K2 ⊢
  have hm : Mod [] w w.drew := (Mod.refl [] w).drew
  clear ho hx hy hz er eq ee hp0 hp1 hq hr hu
  go_enter Tryz.func121, Tryz.ntmps121
  go_wp2_with fail
  go_region_held3 (fun W => W.cell? ⟨b, 0, none⟩ = some (.int .i64 x) ∧ W.cell? ⟨b, 1, none⟩ = some (.int .i64 y) ∧ W.cell? ⟨b, 2, none⟩ = some (.int .i64 z)) (first | with_reducible exact ⟨hm.cell (x := ⟨b, 0, none⟩) (by simp) c0, hm.cell (x := ⟨b, 1, none⟩) (by simp) c1, hm.cell (x := ⟨b, 2, none⟩) (by simp) c2⟩ | fail)
    (first | ((with_reducible refine (K1.out _ hm).mono ?_); rintro e w2 ⟨rfl, hm⟩) | ((with_reducible refine (K2.out _ hm).mono ?_); rintro e w2 ⟨rfl, hm⟩) | fail)
  go_wp2
  go_ret2
  exact ⟨_, _, rfl, Nat.le_refl _, sl_two _ _ _ _, hm.far (far_alloc _ _)⟩
theorem act_59 (x y z : Int) (hx : I64 x) (hy : I64 y) (hz : I64 z) (μ : Mu) : Uni 59 3 [x, y, z] μ [scaleR x y z, scaleQ x y z] (scaleE x y z) μ := fun a R =>
  act_plain rfl fun w T b c h ho hb => (scalemod_does hx hy hz ho).mono fun e w' ⟨b', cap, h1, h2, h3, h4⟩ => Gives.acted ⟨_, _, _, h1, rfl, h3, h4⟩ h
set_option maxRecDepth 100000 in
theorem scale_does {w : World} {b c : Nat} {x y z : Int} (hx : I64 x) (hy : I64 y) (hz : I64 z) (ho : Ow w b [x, y, z] c) : Calls Tryz.prog 120 #[.slice (some ⟨b, 0, none⟩) 3 c] w (Gives w [scaleQ x y z] (scaleE x y z)) := by
  have K := Lib.hid (scalemod_does hx hy hz ho)
  clear ho hx hy hz
  go_enter Tryz.func120, Tryz.ntmps120
  go_wp2_with fail
  refine K.out.mono ?_
  rintro e w1 ⟨b1, cap, rfl, hc, hs, hm⟩
  have hs1 : Sl w1 (some ⟨b1, 1, none⟩) [scaleQ x y z] := fun j hj => by
    obtain rfl : j = 0 := by simp at hj; omega
    obtain ⟨b', off, e, h⟩ := hs 1 (by simp)
    injection e with e
    injection e with e1 e2
    subst e1 e2
    exact ⟨b1, 1, rfl, h⟩
  have hc2 : (2 : Int) ≤ (cap : Int) := by omega
  clear K hs
  go_wp2
  go_ret2
  exact ⟨_, _, _, rfl, rfl, hs1, hm⟩
theorem act_58 (x y z : Int) (hx : I64 x) (hy : I64 y) (hz : I64 z) (μ : Mu) : Uni 58 3 [x, y, z] μ [scaleQ x y z] (scaleE x y z) μ := fun a R =>
  act_plain rfl fun w T b c h ho hb => (scale_does hx hy hz ho).mono fun e w' hg => hg.acted h
set_option maxHeartbeats 2000000 in
set_option maxRecDepth 100000 in
theorem divmod_does {w : World} {b c : Nat} {x y : Int} (ho : Ow w b [x, y] c) : Calls Tryz.prog 122 #[.slice (some ⟨b, 0, none⟩) 2 c] w fun e w' => if y = 0 then Gives w [] (-10) e w' else Gives w [twoV 15 x y, twoV 14 x y] 0 e w' := by
  have c0 : w.cell? ⟨b, 0, none⟩ = some (.int .i64 x) := ho.cell 0 (by simp)
  have c1 : w.cell? ⟨b, 1, none⟩ = some (.int .i64 y) := ho.cell 1 (by simp)
  have K1 := Lib.hid (fun W => two_calls 15 x y W)
  have K2 := Lib.hid (fun W => two_calls 14 x y W)
  have hm : Mod [] w w.drew := (Mod.refl [] w).drew
  by_cases hy : y = 0
  · have e1 : twoE 15 y = -10 := by unfold twoE; rw [if_neg (by decide), if_pos ⟨hy, Or.inr rfl⟩]
    rw [e1] at K1
    simp only [if_pos hy]
    obtain ⟨u, hu⟩ : ∃ p, p = twoV 15 x y := ⟨_, rfl⟩
    rw [← hu] at K1
    clear ho e1 hu hy K2
    go_enter Tryz.func122, Tryz.ntmps122
    go_wp2_with fail
    go_region_held3 (fun W => W.cell? ⟨b, 0, none⟩ = some (.int .i64 x) ∧ W.cell? ⟨b, 1, none⟩ = some (.int .i64 y)) (first | with_reducible exact ⟨hm.cell (x := ⟨b, 0, none⟩) (by simp) c0, hm.cell (x := ⟨b, 1, none⟩) (by simp) c1⟩ | fail)
      (first | ((with_reducible refine (K1.out _).mono ?_); rintro e w2 ⟨rfl, hx⟩; have hm := hm.far (hx ▸ far_alloc _ _)) | fail)
    go_wp2
    go_ret2
    exact ⟨_, _, _, rfl, rfl, Sl.nil _ _, hm⟩
  · have e1 : twoE 15 y = 0 := by unfold twoE; rw [if_neg (by decide), if_neg (fun h => hy h.1)]
    have e2 : twoE 14 y = 0 := by unfold twoE; rw [if_neg (by decide), if_neg (fun h => hy h.1)]
    rw [e1] at K1
    rw [e2] at K2
    simp only [if_neg hy]
    obtain ⟨u, hu⟩ : ∃ p, p = twoV 15 x y := ⟨_, rfl⟩
    obtain ⟨v, hv⟩ : ∃ p, p = twoV 14 x y := ⟨_, rfl⟩
    rw [← hu] at K1 ⊢
    rw [← hv] at K2 ⊢
    clear ho e1 e2 hu hv hy
    go_enter Tryz.func122, Tryz.ntmps122
    go_wp2_with fail
    go_region_held3 (fun W => W.cell? ⟨b, 0, none⟩ = some (.int .i64 x) ∧ W.cell? ⟨b, 1, none⟩ = some (.int .i64 y)) (first | with_reducible exact ⟨hm.cell (x := ⟨b, 0, none⟩) (by simp) c0, hm.cell (x := ⟨b, 1, none⟩) (by simp) c1⟩ | fail)
      (first | ((with_reducible refine (K1.out _).mono ?_); rintro e w2 ⟨rfl, hx⟩; have hm := hm.far (hx ▸ far_alloc _ _)) | fail)
    go_wp2_with fail
    have hm := hm.far (Mod.refl [] w2).drew
    go_region_held3 (fun W => W.cell? ⟨b, 0, none⟩ = some (.int .i64 x) ∧ W.cell? ⟨b, 1, none⟩ = some (.int .i64 y)) (first | with_reducible exact ⟨hm.cell (x := ⟨b, 0, none⟩) (by simp) c0, hm.cell (x := ⟨b, 1, none⟩) (by simp) c1⟩ | fail)
      (first | ((with_reducible refine (K2.out _).mono ?_); rintro e w3 ⟨rfl, hx2⟩; have hm := hm.far (hx2 ▸ far_alloc _ _)) | fail)
    go_wp2
    go_ret2
    exact ⟨_, _, _, rfl, rfl, sl_two _ _ _ _, hm.far (far_alloc _ _)⟩
theorem act_60 (x y : Int) (μ : Mu) : Uni 60 2 [x, y] μ (if y = 0 then [] else [twoV 15 x y, twoV 14 x y]) (if y = 0 then -10 else 0) μ := fun a R =>
  act_plain rfl fun w T b c h ho hb => (divmod_does ho).mono fun e w' hg => by
    by_cases hy : y = 0
    · rw [if_pos hy] at hg
      rw [if_pos hy, if_pos hy]
      exact hg.acted h
    · rw [if_neg hy] at hg
      rw [if_neg hy, if_neg hy]
      exact hg.acted h
end Go.Proofs.YtegcecpmdgljpaaGreatDoor
