/- Layer 13: PrimCells's own closure, and what each use of it gives. Condition: cells are integers of 64 bits; the listed variables hold what they hold. -/
import Derived.Test.YtegcecpmdgljpaaGreatDoorVG
import Derived.Test.YtegcecpmdgljpaaGreatDoorMGZ
import Derived.Test.YtegcecpmdgljpaaGreatDoorWM
namespace Go.Proofs.YtegcecpmdgljpaaGreatDoor
open Go.RowKit
set_option linter.unusedVariables false

/-- What a use gives: a row and an error. -/
def RunsTo (op : Int) (X : List Int) (R : List Int → Int → Prop) : Prop := ∀ w0 w a, Lv w0 w a [] X (mu0 1024) → Calls Tryz.prog 14 #[Pt a.s, .int .i64 op] w fun e w' => ∃ C er μ', R C er ∧ Lv.Did w0 w a [] C μ' er e w'
set_option maxHeartbeats 2000000 in
set_option maxRecDepth 100000 in
theorem crun_calls {w : World} (g : Good w) (op : Int) (A : Option Addr) (n cap : Nat) (X : List Int) (R : List Int → Int → Prop) (hs : Sl w A X) (hn : n = X.length) (hX : ∀ x ∈ X, I64 x) (hX8 : X.length ≤ 8) (hr : RunsTo op X R) :
    Calls Tryz.prog 31 #[.int .i64 op, .slice A n cap] w fun e w' => ∃ C er b c, R C er ∧ e = .returned (.tuple #[.slice (some ⟨b, 0, none⟩) C.length c, .int .i64 er]) ∧ Ow w' b C c ∧ Mod [] w w' := by
  have G := Lib.hid g
  have HR := Lib.hid hr
  have HS := Lib.hid (And.intro hs (And.intro hn (And.intro hX hX8)))
  clear g hr hs hn hX hX8
  go_enter Tryz.func31, Tryz.ntmps31
  go_wp2_with fail
  refine (lv_new 1024 (Mod.refl [] w) G.out (by decide) (by decide) (by decide)).mono ?_
  rintro e w2 ⟨a, rfl, h2, m2⟩
  have H2 := Lib.hid h2
  have HP := Lib.hid (h2.put cap (HS.out.1.mod m2 (by simp)) HS.out.2.1 HS.out.2.2.1 (by have := HS.out.2; omega))
  rw [putL_nil X (by have := HS.out.2.2.2; omega)] at HP
  clear h2 m2
  go_wp2_with fail
  refine (H2.out.stack).mono ?_
  rintro e w3 ⟨rfl, rfl⟩
  go_wp2_with fail
  refine (HP.out).mono ?_
  rintro e w3 ⟨rfl, h3⟩
  have HD := Lib.hid (HR.out _ _ _ h3)
  clear h3 HP H2 HR
  go_wp2_with fail
  refine (HD.out).mono ?_
  rintro e w4 ⟨C, er, μ', hR, rfl, h4⟩
  have H4 := Lib.hid h4
  have HRR := Lib.hid hR
  clear h4 HD hR
  go_wp2_with fail
  refine (H4.out.stack).mono ?_
  rintro e w5 ⟨rfl, rfl⟩
  go_wp2_with fail
  refine (H4.out.all).mono ?_
  rintro e w5 ⟨b, c, rfl, hw, h5, hm⟩
  have H5 := Lib.hid (And.intro hw h5.mod)
  clear hw h5 hm H4
  go_wp2_with fail
  go_ret2
  exact ⟨C, er, b, c, HRR.out, rfl, H5.out.1, H5.out.2⟩
/-- Just these. -/
def Just (C0 : List Int) (e0 : Int) : List Int → Int → Prop := fun C er => C = C0 ∧ er = e0
theorem ar1 (n : Int) (h : 1 ≤ n ∧ n ≤ 10) : arity n = 1 := by unfold arity; rw [if_pos h]
theorem ar2 (n : Int) (h : 11 ≤ n ∧ n ≤ 27) : arity n = 2 := by unfold arity; rw [if_neg (by omega), if_pos h]
theorem ar3 (n : Int) (h : 63 ≤ n ∧ n ≤ 70) : arity n = 2 := by unfold arity; rw [if_neg (by omega), if_neg (by omega), if_neg (by omega), if_neg (by omega), if_pos h]
theorem runs_one (n x : Int) (hn : 1 ≤ n ∧ n ≤ 10) (hx : I64 x) : RunsTo n [x] (Just [oneV n x] 0) := fun w0 w a h =>
  ((show Lv w0 w a [] ([] ++ [x]) (mu0 1024) from h).ok (by omega) (ar1 n hn) (act_c1 n x hn _) (one_in (oneV_i64 n x hx)) (by simp)).mono fun e w' hd => ⟨_, _, _, ⟨rfl, rfl⟩, hd⟩
theorem runs_any (n x : Int) : RunsTo n [x] (fun _ _ => True) := fun w0 w a h =>
  (h.doany n).mono fun e w' ⟨er, C', μ', hd, _⟩ => ⟨_, _, _, trivial, hd⟩
theorem runs_two (n x y : Int) (hn : 11 ≤ n ∧ n ≤ 27) (hx : I64 x) (hy : I64 y) : RunsTo n [x, y] (fun C er => er = twoE n y ∧ (er = 0 → C = [twoV n x y])) := fun w0 w a h => by
  by_cases e : twoE n y = 0
  · have U := act_c2 n x y hn (mu0 1024)
    rw [e] at U
    exact ((show Lv w0 w a [] ([] ++ [x, y]) (mu0 1024) from h).ok (by omega) (ar2 n hn) U (one_in (twoV_i64 n x y hx hy)) (by simp)).mono fun e' w' hd => ⟨_, _, _, ⟨e.symm, fun _ => rfl⟩, hd⟩
  · exact ((show Lv w0 w a [] ([] ++ [x, y]) (mu0 1024) from h).err (by omega) (ar2 n hn) (act_c2 n x y hn (mu0 1024)) e (one_in (twoV_i64 n x y hx hy)) (by simp)).mono fun e' w' hd => ⟨_, _, _, ⟨rfl, fun z => absurd z e⟩, hd⟩
theorem runs_real (n x y : Int) (hn : 63 ≤ n ∧ n ≤ 70) : RunsTo n [x, y] (Just [realV (n - 60) x y] 0) := fun w0 w a h =>
  ((show Lv w0 w a [] ([] ++ [x, y]) (mu0 1024) from h).ok (by omega) (ar3 n hn) (act_r2 n x y hn _) (one_in (realV_i64 _ _ _)) (by simp)).mono fun e w' hd => ⟨_, _, _, ⟨rfl, rfl⟩, hd⟩
theorem runs_add (x y z u : Int) (hx : I64 x) (hy : I64 y) (hz : I64 z) (hu : I64 u) : RunsTo 44 [x, y, z, u] (Just [lo (V x y + V z u), hi (V x y + V z u)] 0) := fun w0 w a h =>
  ((show Lv w0 w a [] ([] ++ [x, y, z, u]) (mu0 1024) from h).ok (n := 44) (by decide) rfl (act_44 x y z u hx hy hz hu _) (two_in (lo_i64 _) (hi_i64 _)) (by simp)).mono fun e w' hd => ⟨_, _, _, ⟨rfl, rfl⟩, hd⟩
def uE (x y z : Int) : Int := okE (z == 0) (decide (W x y / U z ≤ 18446744073709551615))
def uR (x y z : Int) : Int := okR (z == 0) (decide (W x y / U z ≤ 18446744073709551615)) (wrap64 (W x y % U z))
def uQ (x y z : Int) : Int := okR (z == 0) (decide (W x y / U z ≤ 18446744073709551615)) (lo (W x y / U z))
theorem sl_four {w : World} {L : Nat} {x0 x1 x2 x3 : Int} (h0 : w.cell? ⟨L, 0, none⟩ = some (.int .i64 x0)) (h1 : w.cell? ⟨L, 1, none⟩ = some (.int .i64 x1)) (h2 : w.cell? ⟨L, 2, none⟩ = some (.int .i64 x2)) (h3 : w.cell? ⟨L, 3, none⟩ = some (.int .i64 x3)) : Sl w (some ⟨L, 0, none⟩) [x0, x1, x2, x3] := fun j hj => ⟨L, 0, rfl, by
  rw [Nat.zero_add]
  have h4 : j = 0 ∨ j = 1 ∨ j = 2 ∨ j = 3 := by simp at hj; omega
  rcases h4 with rfl | rfl | rfl | rfl
  · exact h0
  · exact h1
  · exact h2
  · exact h3⟩
theorem four_in {x y z u : Int} (hx : I64 x) (hy : I64 y) (hz : I64 z) (hu : I64 u) : ∀ v ∈ [x, y, z, u], I64 v := by simp; exact ⟨hx, hy, hz, hu⟩
theorem runs_udiv (x y z : Int) (hx : I64 x) (hy : I64 y) (hz : I64 z) : RunsTo 55 [x, y, z] (fun C er => er = uE x y z ∧ (er = 0 → C = [uR x y z, uQ x y z])) := fun w0 w a h => by
  have U := act_55 x y z hx hy hz (mu0 1024)
  have hI : ∀ u ∈ [uR x y z, uQ x y z], I64 u := two_in (okR_i64 fun _ => i64_wrap _) (okR_i64 fun _ => lo_i64 _)
  by_cases e : uE x y z = 0
  · have U : Uni 55 3 [x, y, z] (mu0 1024) [uR x y z, uQ x y z] 0 (mu0 1024) := by rw [← e]; exact U
    exact ((show Lv w0 w a [] ([] ++ [x, y, z]) (mu0 1024) from h).ok (n := 55) (by decide) rfl U hI (by simp)).mono fun e' w' hd => ⟨_, _, _, ⟨e.symm, fun _ => rfl⟩, hd⟩
  · exact ((show Lv w0 w a [] ([] ++ [x, y, z]) (mu0 1024) from h).err (n := 55) (by decide) rfl U e hI (by simp)).mono fun e' w' hd => ⟨_, _, _, ⟨rfl, fun z => absurd z e⟩, hd⟩
end Go.Proofs.YtegcecpmdgljpaaGreatDoor
