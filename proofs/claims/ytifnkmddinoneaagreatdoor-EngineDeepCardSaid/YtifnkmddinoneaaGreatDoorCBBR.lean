/- Layer 15: the document's example. Condition: the library's tables are there (Good, L10.Good). -/
import Derived.Test.YtifnkmddinoneaaGreatDoorCBBP
import Derived.Test.YtifnkmddinoneaaGreatDoorCBBQ
set_option maxRecDepth 100000
namespace Go.Proofs.YtifnkmddinoneaaGreatDoor
open Go.RowKit
set_option linter.unusedVariables false
theorem built_len : (builtE 180).W.length = 180 := builtE_len (by rw [L12.tab_len]; omega)
theorem wd15_new (x : Wd) (r : List Wd) : WdN ((builtE 180).W ++ x :: r) 181 x := ⟨by decide, by
  rw [show ((181 : Int) - 1).toNat = 180 by decide, List.getElem?_append_right (by rw [built_len]; omega), built_len]
  rfl⟩
theorem add_isSome {E : Es} {n : Int} {x : Wd} (h : WdN E.W n x) : (E.word n).isSome = true := by
  unfold Es.word
  rw [if_pos h.1, h.2]; rfl
theorem shown_ok : ∀ x ∈ ([⟨1, 0, 5⟩, ⟨15, 0, 0⟩] : List L10.Xi), OkX x := by
  intro x hx
  simp at hx
  rcases hx with rfl | rfl <;> exact okX_of _ (by decide) (by decide) (by unfold I64; decide)
set_option maxRecDepth 100000 in
set_option maxHeartbeats 4000000 in
theorem shown15 (w : World) (hg : Good w) (g10 : L10.Good w) : Calls Tryz.prog 10 #[] w fun e w' => e = .returned (.bool true) ∧ Mod [] w w' := by
  have H1 := Lib.hid (lw_made (Mod.refl [] w) hg)
  have HG := Lib.hid g10
  clear hg g10
  go_enter Tryz.func10, Tryz.ntmps10
  go_wp2_with fail
  refine (H1.out).mono ?_
  rintro e w1 ⟨A, ⟨rfl, h1⟩, m1⟩
  have H2 : RowKit.Hid (∀ W, Mod [] (w1.alloc (.cells #[.int .u8 1, .int .i64 0, .int .i64 5, .int .u8 15, .int .i64 0, .int .i64 0] 61)) W → Calls Tryz.prog 12 #[Pt A.g, .agg #[.slice (some ⟨w1.heap.size, 0, none⟩) 2 2]] W (Lw.Did w A [] ⟨[], [[⟨1, 0, 5⟩, ⟨15, 0, 0⟩]], [], 0, 0, 0, [], mu0 1024, [], 0⟩ (.tuple #[.int .i64 1, .int .i64 0]))) :=
    Lib.hid (fun W k => h1.deflit HG.out [⟨1, 0, 5⟩, ⟨15, 0, 0⟩] may_shown shown_ok (by decide) #[.int .u8 1, .int .i64 0, .int .i64 5, .int .u8 15, .int .i64 0, .int .i64 0] rfl 2 rfl k)
  clear h1 m1 H1
  go_wp2_with fail
  refine (H2.out _ (Mod.refl _ _)).mono ?_
  rintro e w2 ⟨rfl, h2⟩
  have H3 : RowKit.Hid (∀ W, Mod [] w2 W → Calls Tryz.prog 13 #[Pt A.g, .agg #[.int .i64 5, .int .i64 1, .int .i64 0]] W (Lw.Did w A [] ⟨[⟨5, 1, 0⟩], [[⟨1, 0, 5⟩, ⟨15, 0, 0⟩]], [], 0, 0, 0, [], mu0 1024, [], 0⟩ (.tuple #[.int .i64 1, .int .i64 0]))) :=
    Lib.hid (fun W k => (h2.far k).add ⟨5, 1, 0⟩ (Or.inr (Or.inl ⟨Or.inl rfl, rfl⟩)) ⟨by decide, by decide, by unfold I64; decide, by unfold I64; decide, by decide⟩ (by decide))
  clear h2 H2
  go_wp2_with fail
  refine (H3.out _ (Mod.refl _ _)).mono ?_
  rintro e w3 ⟨rfl, h3⟩
  have H4 := Lib.hid (h3.exec 1 rfl)
  clear h3 H3
  go_wp2_with fail
  refine (H4.out).mono ?_
  rintro e w4 ⟨rfl, h4⟩
  have H5 := Lib.hid (show Lw w w4 A [] ⟨[⟨5, 1, 0⟩], [[⟨1, 0, 5⟩, ⟨15, 0, 0⟩]], [], 0, 0, 1, [], mu0 1024, [], 0⟩ from h4)
  clear h4 H4
  go_wp2_with fail
  go_loopw [6, 38] (fun o y wr => o = .bool true ∧ ∃ j : Nat, y = .int .i64 (j : Int) ∧ j ≤ 4 ∧ RowKit.Hid (∃ E, Lw w wr A [] E ∧ Pth (4 - j) E ⟨[⟨5, 1, 0⟩], [[⟨1, 0, 5⟩, ⟨15, 0, 0⟩]], [], 0, 0, 0, [5], mu0 1024, [], 0⟩)) (fun _ y _ => 5 - (intOf y).toNat)
  case atStart => exact ⟨rfl, 0, rfl, by omega, Lib.hid ⟨_, H5.out, shown_path ⟨by decide, rfl⟩⟩⟩
  case round =>
    obtain ⟨rfl, j, rfl, hj, hi⟩ := hrel
    obtain ⟨E, h5, p5⟩ := hi.out
    by_cases hlt : j < 4
    · have hjI : (j : Int) < 4 := by omega
      have wj : wrap64 ((j : Int) + 1) = (j : Int) + 1 := IntWalk.wrap64_in _ (by omega)
      obtain ⟨E2, n2, p2⟩ : ∃ E2, Nxt E ranS E2 ∧ Pth (4 - (j + 1)) E2 ⟨[⟨5, 1, 0⟩], [[⟨1, 0, 5⟩, ⟨15, 0, 0⟩]], [], 0, 0, 0, [5], mu0 1024, [], 0⟩ := by
        rw [show 4 - j = (4 - (j + 1)) + 1 by omega] at p5
        exact p5
      have HN := Lib.hid fun W (k : Mod [] wr W) => (h5.far k).next n2
      have HP := Lib.hid p2
      clear hi h5 p5 n2 p2 H5
      unfold stV ranS at HN
      dsimp only at HN
      go_wp2_with fail
      refine (HN.out _ (Mod.refl _ _)).mono ?_
      rintro e w6 ⟨rfl, h6⟩
      have H6 := Lib.hid h6
      clear h6 HN
      go_wp2_with fail
      go_roundw
      case rel => exact ⟨rfl, j + 1, by go_num, by omega, Lib.hid ⟨E2, H6.out, HP.out⟩⟩
      case measure => simp [intOf]; omega
    · have hjI : ¬ (j : Int) < 4 := by omega
      have hj4 : j = 4 := by omega
      subst hj4
      rw [Nat.sub_self] at p5
      have p5 : E = _ := p5
      subst p5
      have HN := Lib.hid fun W (k : Mod [] wr W) => (h5.far k).next nxt_halt
      unfold stV at HN
      dsimp only at HN
      clear hi h5 H5
      go_wp2_with fail
      refine (HN.out _ (Mod.refl _ _)).mono ?_
      rintro e w6 ⟨rfl, h6⟩
      have HA := Lib.hid h6.state
      have HB := Lib.hid h6.stack
      have HC := Lib.hid h6.all
      clear h6 HN
      go_wp2_with fail
      refine (HA.out).mono ?_
      rintro e w7 ⟨rfl, rfl⟩
      go_wp2_with fail
      refine (HB.out).mono ?_
      rintro e w7 ⟨rfl, rfl⟩
      go_wp2_with fail
      refine (HC.out).mono ?_
      rintro e w8 ⟨b, c, rfl, ho, hb, h8, m8⟩
      have H8 := Lib.hid (And.intro ho h8)
      clear ho hb h8 m8 HA HB HC
      go_wp2_with fail
      refine (same_row (H8.out.1.mod ((Mod.refl [] w8).alloc _) (by simp)) (sl_row w8 [5] _) rfl (by simp) (by simp)).mono ?_
      rintro e w9 ⟨rfl, m9⟩
      have H9 := Lib.hid ((H8.out.2.far ((Mod.refl [] w8).alloc _)).far m9).mod
      clear m9 H8
      go_wp2
      go_ret
      exact ⟨rfl, H9.out⟩
end Go.Proofs.YtifnkmddinoneaaGreatDoor
