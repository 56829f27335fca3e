/- Layer 8 (package source): what is told of the last source, and what is read of it. Condition: the block is an input that has sources (Inp). -/
import Derived.Test.YtmbcjphgjdffmaaS8D
namespace Go.Proofs.Ytmbcjphgjdffmaa
open Go.RowKit
set_option linter.unusedVariables false

/-- The last source of an input, where it lies, with all that the walks want. -/
structure Top (w : World) (p : Nat) (S : List Nat) (B : List Sc) (x : Sc) (M g : Nat) : Prop where
  last : Calls Try.prog 20 #[Pt p] w fun e w' => e = .returned (.pointer (some ⟨g, B.length * 3, none⟩)) ∧ w = w'
  rd : Rd w g (B.length * 3) x.t x.i
  c2 : w.cell? ⟨g, B.length * 3 + 2, none⟩ = some (.int .i64 (x.n : Int))
  tl : x.t.length ≤ 1000
  il : x.i ≤ x.t.length
  set : ∀ j, j ≤ x.t.length → ∀ w1, Mod [] w w1 → Inp (w1.setCell ⟨g, B.length * 3 + 1, none⟩ (.int .i64 (j : Int))) p S (B ++ [{ x with i := j }]) M ∧ Turn S S w (w1.setCell ⟨g, B.length * 3 + 1, none⟩ (.int .i64 (j : Int)))
theorem Inp.top {w : World} {p : Nat} {S : List Nat} {B : List Sc} {x : Sc} {M : Nat} (h : Inp w p S (B ++ [x]) M) : ∃ g, Top w p S B x M g := by
  obtain ⟨v, h, rfl⟩ := h
  obtain ⟨g, cap, rfl, hgp, hg, h0, h1, h2, hf⟩ := h.top
  refine ⟨g, last_calls h, ⟨h0, h1, hf _⟩, h2, (h.ok x (by simp)).2, (h.ok x (by simp)).1, fun j hj w1 hm => ?_⟩
  have k := h.mod hm (by simp)
  have k2 := k.set j hj
  refine ⟨⟨_, k2.1, rfl⟩, Turn.of ?_⟩
  exact hm.up (T := p :: (Value.slice (some ⟨g, 0, none⟩) (B.length + 1) cap).ownBlock.toList) (by simp) |>.trans (k2.2.up (by simp [Value.ownBlock]))
theorem word_top {w : World} {p : Nat} {S : List Nat} {B : List Sc} {x : Sc} {M : Nat} (h : Inp w p S (B ++ [x]) M) :
    Calls Try.prog 10 #[Pt p] w (Plays p S (.string (str (wordL x.t x.i).1)) (B ++ [{ x with i := (wordL x.t x.i).2 }]) M w) := by
  obtain ⟨g, k⟩ := h.top
  have H := Lib.hid k.last
  have htl := k.tl
  have K := Lib.hid (rd_word k.rd (by omega))
  have E := Lib.hid (k.set (wordL x.t x.i).2 (upN_le _ _ _))
  clear h k
  obtain ⟨k, hk⟩ : ∃ k, k = B.length * 3 := ⟨_, rfl⟩
  rw [← hk] at H K E
  clear hk
  unfold Plays
  go_enter Try.func10, Try.ntmps10
  go_wp2_with fail
  refine (H.out).mono ?_
  rintro e w1 ⟨rfl, rfl⟩
  go_wp2_with fail
  refine (K.out).mono ?_
  rintro e w2 ⟨rfl, w3, hm3, rfl⟩
  have HE := Lib.hid (E.out w3 hm3)
  clear hm3
  go_wp2_with fail
  go_ret
  exact ⟨rfl, _, HE.out.1, HE.out.2⟩
theorem text_top {w : World} {p : Nat} {S : List Nat} {B : List Sc} {x : Sc} {M : Nat} (h : Inp w p S (B ++ [x]) M) :
    Calls Try.prog 15 #[Pt p] w fun e w' => e = .returned (.string (str x.t)) ∧ w = w' := by
  obtain ⟨g, k⟩ := h.top
  have H := Lib.hid k.last
  have h0 := k.rd.c0
  clear h k
  obtain ⟨k, hk⟩ : ∃ k, k = B.length * 3 := ⟨_, rfl⟩
  rw [← hk] at H h0
  clear hk
  go_enter Try.func15, Try.ntmps15
  go_wp2_with fail
  refine (H.out).mono ?_
  rintro e w1 ⟨rfl, rfl⟩
  go_wp2_with fail
  go_ret
  exact ⟨rfl, rfl⟩
theorem in_top {w : World} {p : Nat} {S : List Nat} {B : List Sc} {x : Sc} {M : Nat} (h : Inp w p S (B ++ [x]) M) :
    Calls Try.prog 12 #[Pt p] w fun e w' => e = .returned (.int .i64 (x.i : Int)) ∧ w = w' := by
  obtain ⟨g, k⟩ := h.top
  have H := Lib.hid k.last
  have h0 := k.rd.c1
  clear h k
  obtain ⟨k, hk⟩ : ∃ k, k = B.length * 3 := ⟨_, rfl⟩
  rw [← hk] at H h0
  clear hk
  go_enter Try.func12, Try.ntmps12
  go_wp2_with fail
  refine (H.out).mono ?_
  rintro e w1 ⟨rfl, rfl⟩
  go_wp2_with fail
  go_ret
  exact ⟨rfl, rfl⟩
theorem save_top {w : World} {p : Nat} {S : List Nat} {B : List Sc} {x : Sc} {M : Nat} (h : Inp w p S (B ++ [x]) M) :
    Calls Try.prog 11 #[Pt p] w (Tells (.tuple #[.int .i64 (x.n : Int), .int .i64 (x.i : Int)]) w) := by
  obtain ⟨g, k⟩ := h.top
  have H := Lib.hid k.last
  have h1 := k.rd.c1
  have h2 := k.c2
  have hx := k.tl
  have hx2 := k.il
  clear h k
  obtain ⟨k, hk⟩ : ∃ k, k = B.length * 3 := ⟨_, rfl⟩
  rw [← hk] at H h1 h2
  clear hk
  unfold Tells
  go_enter Try.func11, Try.ntmps11
  go_wp2_with fail
  refine (H.out).mono ?_
  rintro e w1 ⟨rfl, rfl⟩
  go_upto_region 2 with fail
  go_quiet (fail)
  go_wp2_with fail
  go_ret2
  exact ⟨rfl, (Mod.refl [] w).drewN _⟩
theorem seek_top {w : World} {p : Nat} {S : List Nat} {B : List Sc} {x : Sc} {M : Nat} (h : Inp w p S (B ++ [x]) M) (n : Int) (hn : I64 n) :
    Calls Try.prog 18 #[Pt p, .int .i64 n] w (Plays p S (.tuple #[]) (B ++ [{ x with i := heldN x.t.length n }]) M w) := by
  obtain ⟨g, k⟩ := h.top
  have H := Lib.hid k.last
  have htl := k.tl
  have K := Lib.hid (rd_seek k.rd n (by omega) hn)
  have E := Lib.hid (k.set (heldN x.t.length n) (heldN_le _ _) w (Mod.refl [] w))
  clear h k
  obtain ⟨k, hk⟩ : ∃ k, k = B.length * 3 := ⟨_, rfl⟩
  rw [← hk] at H K E
  clear hk
  unfold Plays
  go_enter Try.func18, Try.ntmps18
  go_wp2_with fail
  refine (H.out).mono ?_
  rintro e w1 ⟨rfl, rfl⟩
  go_wp2_with fail
  refine (K.out).mono ?_
  rintro e w2 ⟨rfl, rfl⟩
  go_wp2_with fail
  exact bodyPost_end (v := .tuple #[]) (results_none rfl _ _ _) rfl ⟨rfl, _, E.out.1, E.out.2⟩
theorem restore_no {w : World} {p : Nat} {S : List Nat} {B : List Sc} {x : Sc} {M : Nat} (h : Inp w p S (B ++ [x]) M) (a n : Int) (hno : ¬ (a = (x.n : Int) ∧ 0 ≤ n ∧ n ≤ (x.t.length : Int))) (hn : I64 n) :
    Calls Try.prog 13 #[Pt p, .int .i64 a, .int .i64 n] w fun e w' => e = .returned (.bool false) ∧ w = w' := by
  obtain ⟨g, k⟩ := h.top
  have H := Lib.hid k.last
  have htl := k.tl
  have hD := Lib.hid (depth_calls h)
  have h2 := k.c2
  have K := Lib.hid (rd_has k.rd n (by omega) hn)
  have hl : ((B ++ [x]).length : Int) = (B.length : Int) + 1 := by simp
  rw [hl] at hD
  have hz : ¬ ((B.length : Int) + 1 = 0) := by omega
  clear h k hl
  obtain ⟨k, hk⟩ : ∃ k, k = B.length * 3 := ⟨_, rfl⟩
  rw [← hk] at H K h2
  obtain ⟨D, hDD⟩ : ∃ D, D = (B.length : Int) + 1 := ⟨_, rfl⟩
  rw [← hDD] at hD hz
  clear hk hDD
  obtain ⟨y, hy⟩ : ∃ y, y = (x.n : Int) := ⟨_, rfl⟩
  rw [← hy] at h2 hno
  obtain ⟨b, hb⟩ : ∃ b, b = decide (0 ≤ n ∧ n ≤ (x.t.length : Int)) := ⟨_, rfl⟩
  rw [← hb] at K
  by_cases ha : a = y
  · have hbf : b = false := by rw [hb]; exact decide_eq_false fun h => hno ⟨ha, h⟩
    subst ha
    subst hbf
    clear hno hb hy
    go_enter Try.func13, Try.ntmps13
    go_wp2_with fail
    refine (H.out).mono ?_
    rintro e w1 ⟨rfl, rfl⟩
    go_wp2_with fail
    refine (hD.out).mono ?_
    rintro e w2 ⟨rfl, rfl⟩
    go_wp2_with fail
    refine (K.out).mono ?_
    rintro e w2 ⟨rfl, rfl⟩
    go_wp2_with fail
    go_ret
    exact ⟨rfl, rfl⟩
  · clear hno hb hy
    go_enter Try.func13, Try.ntmps13
    go_wp2_with fail
    refine (H.out).mono ?_
    rintro e w1 ⟨rfl, rfl⟩
    go_wp2_with fail
    refine (hD.out).mono ?_
    rintro e w2 ⟨rfl, rfl⟩
    go_wp2_with fail
    go_ret
    exact ⟨rfl, rfl⟩
theorem restore_yes {w : World} {p : Nat} {S : List Nat} {B : List Sc} {x : Sc} {M : Nat} (h : Inp w p S (B ++ [x]) M) (n : Nat) (hn : n ≤ x.t.length) :
    Calls Try.prog 13 #[Pt p, .int .i64 (x.n : Int), .int .i64 (n : Int)] w (Plays p S (.bool true) (B ++ [{ x with i := n }]) M w) := by
  obtain ⟨g, k⟩ := h.top
  have H := Lib.hid k.last
  have htl := k.tl
  have hD := Lib.hid (depth_calls h)
  have h2 := k.c2
  have K := Lib.hid (rd_has k.rd (n : Int) (by omega) (by unfold I64; omega))
  have K2 := Lib.hid (rd_seek k.rd (n : Int) (by omega) (by unfold I64; omega))
  have E := Lib.hid (k.set n hn w (Mod.refl [] w))
  have hhe : heldN x.t.length (n : Int) = n := by unfold heldN; omega
  have hd : decide (0 ≤ (n : Int) ∧ (n : Int) ≤ (x.t.length : Int)) = true := decide_eq_true ⟨by omega, by omega⟩
  rw [hhe] at K2
  rw [hd] at K
  have hl : ((B ++ [x]).length : Int) = (B.length : Int) + 1 := by simp
  rw [hl] at hD
  have hz : ¬ ((B.length : Int) + 1 = 0) := by omega
  clear h k hl hhe hd
  obtain ⟨k, hk⟩ : ∃ k, k = B.length * 3 := ⟨_, rfl⟩
  rw [← hk] at H K K2 h2 E
  obtain ⟨D, hDD⟩ : ∃ D, D = (B.length : Int) + 1 := ⟨_, rfl⟩
  rw [← hDD] at hD hz
  clear hk hDD
  obtain ⟨y, hy⟩ : ∃ y, y = (x.n : Int) := ⟨_, rfl⟩
  rw [← hy] at h2 ⊢
  clear hy
  unfold Plays
  go_enter Try.func13, Try.ntmps13
  go_wp2_with fail
  refine (H.out).mono ?_
  rintro e w1 ⟨rfl, rfl⟩
  go_wp2_with fail
  refine (hD.out).mono ?_
  rintro e w2 ⟨rfl, rfl⟩
  go_wp2_with fail
  refine (K.out).mono ?_
  rintro e w2 ⟨rfl, rfl⟩
  go_wp2_with fail
  refine (K2.out).mono ?_
  rintro e w2 ⟨rfl, rfl⟩
  go_wp2_with fail
  go_ret
  exact ⟨rfl, _, E.out.1, E.out.2⟩
end Go.Proofs.Ytmbcjphgjdffmaa
