/- Layer 12: a group's words one by one (built). Condition: groups of at most 1000000 words. -/
import Derived.Deep.RegionHeld3
import Derived.Test.YtifnkmddinoneaaGreatDoorCBBB
set_option maxRecDepth 100000
namespace Go.Proofs.YtifnkmddinoneaaGreatDoor.L12
open Go.RowKit
set_option linter.unusedVariables false

theorem group_calls (w : World) (k : Int) : Calls Tryz.prog 227 #[.int .i64 k] w (GpP w k (namesK k) (nowK k) (onlyK k)) := by
  by_cases h1 : k = 1
  · subst h1; exact group_prim w
  by_cases h2 : k = 2
  · subst h2; exact group_ctl w
  by_cases h3 : k = 3
  · subst h3; exact group_flow w
  by_cases h4 : k = 4
  · subst h4; exact group_host w
  have := group_none w k h1 h2 h3 h4
  unfold namesK nowK onlyK
  rw [if_neg h1, if_neg h2, if_neg h3, if_neg h4, if_neg h3, if_neg h4, if_neg h2, if_neg h3, if_neg h4]
  exact this
structure Bx5 (w : World) (b : Nat) (x0 x1 x2 x3 x4 : Value) : Prop where
  c0 : w.cell? ⟨b, 0, none⟩ = some x0
  c1 : w.cell? ⟨b, 1, none⟩ = some x1
  c2 : w.cell? ⟨b, 2, none⟩ = some x2
  c3 : w.cell? ⟨b, 3, none⟩ = some x3
  c4 : w.cell? ⟨b, 4, none⟩ = some x4
  f : ∀ i, w.frozen? ⟨b, i, none⟩ = false
  lt : b < w.heap.size
theorem Bx5.new (w : World) (x0 x1 x2 x3 x4 : Value) (t : TypeId) : Bx5 (w.alloc (.cells #[x0, x1, x2, x3, x4] t)) w.heap.size x0 x1 x2 x3 x4 := by
  have hb := (MapKept.heap_alloc w (.cells #[x0, x1, x2, x3, x4] t)).1
  have hs : (w.alloc (.cells #[x0, x1, x2, x3, x4] t)).heap.size = w.heap.size + 1 := by show (w.heap.push _).size = _; simp
  refine ⟨?_, ?_, ?_, ?_, ?_, fun i => ?_, by omega⟩
  · simp only [World.cell?, hb]; rfl
  · simp only [World.cell?, hb]; rfl
  · simp only [World.cell?, hb]; rfl
  · simp only [World.cell?, hb]; rfl
  · simp only [World.cell?, hb]; rfl
  · simp only [World.frozen?, hb]
    simp
theorem size_allocT (w : World) (o : Obj) : (w.alloc o).heap.size = w.heap.size + 1 := by show (w.heap.push o).size = _; simp
set_option maxRecDepth 100000 in
set_option maxHeartbeats 4000000 in
theorem built_calls {w : World} {lo : Nat} {g : Value} {k : Int} {N W O : List (List UInt8)} (h : Gp w lo g k N W O) (hW : W.length ≤ 1000000) (hO : O.length ≤ 1000000) (hN : N.length ≤ 1000000) (i : Nat) (hi : i < N.length) :
    Calls Tryz.prog 228 #[g, .int .i64 (i : Int)] w fun e w' => e = .returned (.agg #[.string (str N[i]), .int .i64 k, .int .i64 ((i : Int) + 1), .bool (decide (N[i] ∈ W)), .bool (decide (N[i] ∈ O))]) ∧ Mod [] w w' := by
  obtain ⟨A1, c1, A2, c2, A3, c3, rfl, t1, t2, t3, _⟩ := h
  obtain ⟨n1, hn1⟩ : ∃ n, n = N.length := ⟨_, rfl⟩
  obtain ⟨n2, hn2⟩ : ∃ n, n = W.length := ⟨_, rfl⟩
  obtain ⟨n3, hn3⟩ : ∃ n, n = O.length := ⟨_, rfl⟩
  rw [← hn1, ← hn2, ← hn3]
  have hii : (i : Int) < (n1 : Int) := by omega
  have hi6 : (i : Int) ≤ 1000000 := by omega
  have m1 : Mod [] w (w.alloc (.cells #[.int .i64 k, .slice A1 n1 c1, .slice A2 n2 c2, .slice A3 n3 c3] 211)) := (Mod.refl [] w).alloc _
  have b4 := Bx4.new w (.int .i64 k) (.slice A1 n1 c1) (.slice A2 n2 c2) (.slice A3 n3 c3) 211
  obtain ⟨w1, hw1⟩ : ∃ w1, w1 = w.alloc (.cells #[.int .i64 k, .slice A1 n1 c1, .slice A2 n2 c2, .slice A3 n3 c3] 211) := ⟨_, rfl⟩
  rw [← hw1] at m1 b4
  have hsz : w1.heap.size = w.heap.size + 1 := by rw [hw1]; exact size_allocT _ _
  have m2 : Mod [] w1 (w1.alloc (.cells #[.string ⟨#[]⟩, .int .i64 0, .int .i64 0, .bool false, .bool false] 79)) := (Mod.refl [] w1).alloc _
  have b5 := Bx5.new w1 (.string ⟨#[]⟩) (.int .i64 0) (.int .i64 0) (.bool false) (.bool false) 79
  rw [hsz] at b5
  replace b4 := b4.far m2
  have mm := m1.trans m2
  obtain ⟨w2, hw2⟩ : ∃ w2, w2 = w1.alloc (.cells #[.string ⟨#[]⟩, .int .i64 0, .int .i64 0, .bool false, .bool false] 79) := ⟨_, rfl⟩
  rw [← hw2] at b4 b5 mm
  obtain ⟨b, o, rfl, hc⟩ := tx_get (t1.far mm) i hi
  obtain ⟨S, hS⟩ : ∃ S, S = str N[i] := ⟨_, rfl⟩
  rw [← hS] at hc
  have k2 : Calls Tryz.prog 298 #[.slice A2 n2 c2, .string S] w2.drew fun e w' => e = .returned (.bool (decide (N[i] ∈ W))) ∧ w' = w2.drew := by
    rw [hS]; exact contains_calls ((t2.far mm).far (Mod.refl [] w2).drew) hn2 (by omega) N[i]
  have k3 : Calls Tryz.prog 298 #[.slice A3 n3 c3, .string S] w2.drew fun e w' => e = .returned (.bool (decide (N[i] ∈ O))) ∧ w' = w2.drew := by
    rw [hS]; exact contains_calls ((t3.far mm).far (Mod.refl [] w2).drew) hn3 (by omega) N[i]
  obtain ⟨r2, hr2⟩ : ∃ r, r = decide (N[i] ∈ W) := ⟨_, rfl⟩
  obtain ⟨r3, hr3⟩ : ∃ r, r = decide (N[i] ∈ O) := ⟨_, rfl⟩
  rw [← hS, ← hr2, ← hr3]
  rw [← hr2] at k2
  rw [← hr3] at k3
  have hwr : IntKind.i64.wrap ((i : Int) + 1) = (i : Int) + 1 := IntWalk.i64_in _ (by omega)
  have K2 := Lib.hid k2
  have K3 := Lib.hid k3
  obtain ⟨q0, q1, q2, q3, q4, qf, ql⟩ := b5
  obtain ⟨p0, p1, p2, p3, pf, pl⟩ := b4
  have qf0 := qf 0
  have qf1 := qf 1
  have qf2 := qf 2
  have qf3 := qf 3
  have qf4 := qf 4
  have HW1 := Lib.hid (hw1)
  have HW2 := Lib.hid (hw2)
  have MM := Lib.hid mm
  clear k2 k3 hr2 hr3 hS hn1 hn2 hn3 hW hO hN hi t1 t2 t3 m1 m2 mm hsz hw1 hw2 qf pf ql pl
  go_enter Tryz.func228, Tryz.ntmps228
  go_upto_region 1 with fail
  rw [← HW1.out, ← HW2.out]
  clear HW1 HW2
  go_upto_region 2 with fail
  clear p1 hc hii hi6
  go_region_with (first | ((with_reducible refine (K2.out).mono ?_); rintro e w3 ⟨rfl, rfl⟩) | ((with_reducible refine (K3.out).mono ?_); rintro e w3 ⟨rfl, rfl⟩))
  all_goals
    go_wp2_with fail
    refine bodyPost_ret (v := .agg #[.string S, .int .i64 k, .int .i64 ((i : Int) + 1), .bool r2, .bool r3]) (by simp [results, Tryz.results228, go_sem, q0, q1, q2, q3, q4]) rfl ⟨rfl, ?_⟩
    exact (((((MM.out.set (x := ⟨w.heap.size + 1, 0, none⟩) (Or.inr (Nat.le_succ _)) _).set (x := ⟨w.heap.size + 1, 1, none⟩) (Or.inr (Nat.le_succ _)) _).set (x := ⟨w.heap.size + 1, 2, none⟩) (Or.inr (Nat.le_succ _)) _).set (x := ⟨w.heap.size + 1, 3, none⟩) (Or.inr (Nat.le_succ _)) _).set (x := ⟨w.heap.size + 1, 4, none⟩) (Or.inr (Nat.le_succ _)) _).drew
end Go.Proofs.YtifnkmddinoneaaGreatDoor.L12
