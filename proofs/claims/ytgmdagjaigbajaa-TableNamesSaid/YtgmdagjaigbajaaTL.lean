/- Layer 12: the document's Find. Condition: names of at most 1000000000 bytes. -/
import Derived.Test.YtgmdagjaigbajaaTK
namespace Go.Proofs.Ytgmdagjaigbajaa
open Go.RowKit
set_option linter.unusedVariables false

theorem find_take {X : List En} {s : List UInt8} {j : Nat} (hj : j < X.length) (h : (X.take j).find? (fun x => decide (x.s = s)) = none) : (X.take (j + 1)).find? (fun x => decide (x.s = s)) = if X[j].s = s then some X[j] else none := by
  rw [List.take_succ_eq_append_getElem hj, List.find?_append, h, Option.none_or]
  by_cases e : X[j].s = s <;> simp [e]
theorem find_more {X : List En} {s : List UInt8} {n : Nat} {x : En} (h : (X.take n).find? (fun x => decide (x.s = s)) = some x) : X.find? (fun x => decide (x.s = s)) = some x := by
  have := List.find?_append (xs := X.take n) (ys := X.drop n) (p := fun x => decide (x.s = s))
  rw [List.take_append_drop, h, Option.some_or] at this
  exact this
theorem tab_len : tab.length = 180 := by decide +kernel
set_option maxRecDepth 100000 in
set_option maxHeartbeats 8000000 in
theorem rfind_calls (L : List UInt8) (hl : L.length ≤ 1000000000) (w : World) : Calls Try.prog 9 #[.string (str L)] w fun e w' => e = .returned (fiV (findT (foldL L))) ∧ Mod [] w w' := by
  have b0 := Bx5.new w (.string ⟨#[]⟩) (.int .i64 0) (.int .i64 0) (.bool false) (.bool false) 24
  have m0 : Mod [] w (w.alloc (.cells #[.string ⟨#[]⟩, .int .i64 0, .int .i64 0, .bool false, .bool false] 24)) := (Mod.refl [] w).alloc _
  obtain ⟨q, hq⟩ : ∃ q, q = w.heap.size := ⟨_, rfl⟩
  have HQ := Lib.hid (show w.heap.size ≤ q from Nat.le_of_eq hq.symm)
  rw [← hq] at b0
  have Hq := Lib.hid hq
  clear hq
  have F1 := Lib.hid (fun W => rfold_calls L hl W)
  have A1 := Lib.hid (fun W => rall_calls W)
  obtain ⟨s, hs⟩ : ∃ s, s = foldL L := ⟨_, rfl⟩
  rw [← hs] at F1 ⊢
  obtain ⟨S, hS⟩ : ∃ S, S = str L := ⟨_, rfl⟩
  rw [← hS] at F1 ⊢
  obtain ⟨U, hU⟩ : ∃ U, U = str s := ⟨_, rfl⟩
  rw [← hU] at F1
  have HU := Lib.hid hU
  have B0 := Lib.hid b0
  have M0 := Lib.hid m0
  clear hs hS hU hl b0 m0
  go_enter Try.func9, Try.ntmps9
  go_upto_region 1 with fail
  generalize w.alloc (.cells #[.string ⟨#[]⟩, .int .i64 0, .int .i64 0, .bool false, .bool false] 24) = W at *
  rw [← Hq.out]
  go_wp2_with fail
  refine (A1.out _).mono ?_
  rintro e w1 ⟨v, rfl, er, m1⟩
  have B1 := Lib.hid (B0.out.far m1)
  have M1 := Lib.hid (M0.out.trans m1)
  obtain ⟨A, c, rfl, hE⟩ := er.at
  rw [tab_len]
  have HE := Lib.hid hE
  obtain ⟨X, hX⟩ : ∃ X, X = tab := ⟨_, rfl⟩
  have HX := Lib.hid hX
  rw [← hX] at HE
  have hXl : X.length = 180 := by rw [hX]; exact tab_len
  clear m1 er hE hX
  go_wp2_with fail
  go_loopw [5] (fun y wr => ∃ j : Nat, y = .int .i64 (j : Int) ∧ j ≤ 180 ∧ RowKit.Hid ((X.take j).find? (fun x => decide (x.s = s)) = none ∧ Mod [] w1 wr)) (fun y _ => 181 - (intOf y).toNat)
  case atStart => exact ⟨0, rfl, by omega, Lib.hid ⟨rfl, Mod.refl _ _⟩⟩
  case round =>
    obtain ⟨j, rfl, hj, hi⟩ := hrel
    obtain ⟨h1, h2⟩ := hi.out
    by_cases hlt : j < 180
    · have hjI : (j : Int) < 180 := by omega
      have hjX : j < X.length := by omega
      obtain ⟨b, rfl, g0, g1, g2, g3, g4⟩ := (HE.out.far h2) j hjX
      have hft := find_take hjX h1
      obtain ⟨x, hx⟩ : ∃ x, x = X[j] := ⟨_, rfl⟩
      rw [← hx] at g0 g1 g2 g3 g4 hft
      have HI := Lib.hid (And.intro h1 h2)
      have wj : wrap64 ((j : Int) + 1) = (j : Int) + 1 := IntWalk.wrap64_in _ (by omega)
      obtain ⟨N, hN⟩ : ∃ N, N = str x.s := ⟨_, rfl⟩
      rw [← hN] at g0
      have g0d := (Mod.refl [] wr).drew.cell (by simp) g0
      have HF := Lib.hid hft
      have HXX := Lib.hid hx
      by_cases e : x.s = s
      · have he : (N.toList == U.toList) = true := by rw [hN, HU.out, e]; exact str_eql s
        have hfin : findT s = some x := by
          unfold findT
          rw [← HX.out]
          refine find_more (n := j + 1) ?_
          rw [HF.out, if_pos e]
        have HFI := Lib.hid hfin
        have HN := Lib.hid hN
        clear hi h1 h2 hx hN hft e hfin
        go_upto_region 5 with fail
        go_region_held3 (fun V => V.cell? ⟨b, j * 5, none⟩ = some (.string N)) (first | exact g0d | exact g0e | fail) (first
          | ((with_reducible refine (F1.out _).mono ?_); rintro e w3 ⟨rfl, m3⟩; have g0e := m3.cell (by simp) g0d)
          | fail)
        all_goals
          have k0 := g0e
          have k1 := m3.cell (by simp) ((Mod.refl [] wr).drew.cell (by simp) g1)
          have k2 := m3.cell (by simp) ((Mod.refl [] wr).drew.cell (by simp) g2)
          have k3 := m3.cell (by simp) ((Mod.refl [] wr).drew.cell (by simp) g3)
          have k4 := m3.cell (by simp) ((Mod.refl [] wr).drew.cell (by simp) g4)
          have m6 := HI.out.2.trans ((Mod.refl [] wr).drew.trans m3)
          obtain ⟨q0, q1, q2, q3, q4, qf, _⟩ := B1.out.far m6
          have qf0 := qf 0
          have qf1 := qf 1
          have qf2 := qf 2
          have qf3 := qf 3
          have qf4 := qf 4
          have M6 := Lib.hid (M1.out.trans m6)
          clear m6 g0 g1 g2 g3 g4 g0d g0e m3 qf
          go_wp2_with fail
          refine bodyPost_ret (v := .tuple #[.agg #[.string N, .int .i64 x.k, .int .i64 (x.n : Int), .bool x.now, .bool x.only], .bool true]) (by simp [results, Try.results9, go_sem, q0, q1, q2, q3, q4]) rfl ⟨by rw [HFI.out, HN.out]; rfl, ?_⟩
          exact ((((M6.out.set (x := ⟨q, 0, none⟩) (Or.inr HQ.out) _).set (x := ⟨q, 1, none⟩) (Or.inr HQ.out) _).set (x := ⟨q, 2, none⟩) (Or.inr HQ.out) _).set (x := ⟨q, 3, none⟩) (Or.inr HQ.out) _).set (x := ⟨q, 4, none⟩) (Or.inr HQ.out) _
      · have he : (N.toList == U.toList) = false := by rw [hN, HU.out]; exact str_nel e
        rw [if_neg e] at hft
        have HF2 := Lib.hid hft
        clear hi h1 h2 hx hN hft e
        go_upto_region 5 with fail
        go_region_held3 (fun V => V.cell? ⟨b, j * 5, none⟩ = some (.string N)) (first | exact g0d | exact g0e | fail) (first
          | ((with_reducible refine (F1.out _).mono ?_); rintro e w3 ⟨rfl, m3⟩; have g0e := m3.cell (by simp) g0d)
          | fail)
        all_goals
          have REL := Lib.hid (HI.out.2.trans ((Mod.refl [] wr).drew.trans m3))
          clear g0 g1 g2 g3 g4 g0d g0e m3
          go_wp2_with fail
          go_roundw
          case rel => exact ⟨j + 1, by go_num, by omega, Lib.hid ⟨HF2.out, REL.out⟩⟩
          case measure => simp [intOf]; omega
    · have hjI : ¬ (j : Int) < 180 := by omega
      have e4 : j = X.length := by omega
      rw [e4, List.take_of_length_le (Nat.le_refl _)] at h1
      have hfind : findT s = none := by unfold findT; rw [← HX.out]; exact h1
      have HF := Lib.hid hfind
      obtain ⟨q0, q1, q2, q3, q4, qf, _⟩ := B1.out.far h2
      have qf0 := qf 0
      have qf1 := qf 1
      have qf2 := qf 2
      have qf3 := qf 3
      have qf4 := qf 4
      have M6 := Lib.hid (M1.out.trans h2)
      clear hi h1 h2 hfind qf e4
      go_wp2_with fail
      refine bodyPost_ret (v := .tuple #[.agg #[.string ⟨#[]⟩, .int .i64 0, .int .i64 0, .bool false, .bool false], .bool false]) (by simp [results, Try.results9, go_sem, q0, q1, q2, q3, q4]) rfl ⟨by rw [HF.out]; rfl, ?_⟩
      exact ((((M6.out.set (x := ⟨q, 0, none⟩) (Or.inr HQ.out) _).set (x := ⟨q, 1, none⟩) (Or.inr HQ.out) _).set (x := ⟨q, 2, none⟩) (Or.inr HQ.out) _).set (x := ⟨q, 3, none⟩) (Or.inr HQ.out) _).set (x := ⟨q, 4, none⟩) (Or.inr HQ.out) _
end Go.Proofs.Ytgmdagjaigbajaa
