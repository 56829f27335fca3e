/- Layer 11: there are so many instructions and parts at most (FlowBounds' walk). No condition. -/
import Derived.Test.YtnclfopdgilgaaaFT
import Derived.Deep.Cut
import Derived.Deep.DeepCutAuto
namespace Go.Proofs.Ytnclfopdgilgaaa
open Go.RowKit
set_option linter.unusedVariables false

abbrev dropX : Xi := ⟨11, 0, 0⟩
theorem bounds_u16 {a : Int} (h : (Lit.int .u16 a).wf = true) : 0 ≤ a ∧ a ≤ 65535 := by
  simpa [Lit.wf, IntKind.min, IntKind.max, IntKind.signed, IntKind.bits] using h
def Pb (i : Nat) : Bd := ⟨List.replicate (min i 499) dropX, []⟩
theorem pb_put (i : Nat) : putB dropX (Pb i) = (if i < 499 then 0 else -8, Pb (i + 1)) := by
  unfold putB Pb
  simp only [List.length_replicate]
  by_cases h : i < 499
  · rw [if_pos (by omega), if_pos h]
    unfold layB
    rw [show min (i + 1) 499 = min i 499 + 1 by omega, List.replicate_succ']
  · rw [if_neg (by omega), if_neg h, show min (i + 1) 499 = min i 499 by omega]
theorem pb_full (i : Nat) (h : 499 ≤ i) : doB 1 (Pb i) = (-8, Pb i) := do_full 1 _ rfl (by unfold fitsB; simp [ends_nil]) (by unfold roomB Pb; simp [List.length_replicate]; omega)
theorem pb_begin (i : Nat) : doB 4 (Pb i) = (0, openB 2 [] (Pb i)) := do_begin (by simp [Pb])
theorem pb_again (i : Nat) (h : 499 ≤ i) : doB 8 (openB 2 [] (Pb i)) = (-8, openB 2 [] (Pb i)) := do_full 8 _ rfl (by unfold fitsB; simp [openB, Pb]; exact ends_snoc [] ⟨2, _, []⟩) (by unfold roomB openB Pb; simp [List.length_replicate]; omega)
def Pg (j : Nat) : Bd := ⟨[], List.replicate j ⟨2, 0, []⟩⟩
theorem pg_begin (j : Nat) (h : j < 32) : doB 4 (Pg j) = (0, Pg (j + 1)) := by
  rw [do_begin (by simpa [Pg] using h)]
  unfold openB Pg
  simp [List.replicate_succ']
theorem pg_full : doB 4 (Pg 32) = (-8, Pg 32) := by kernel_rfl
theorem pg_while : doB 5 (Pg 32) = (-8, Pg 32) := by kernel_rfl
theorem new_do (n : Int) : ((doB n ⟨[], []⟩).1 == 1) = !(decide (1 ≤ n) && decide (n ≤ 17)) := by
  rcases row_ends n with h | ⟨h1, h2⟩
  · have e : doB n ⟨[], []⟩ = (1, ⟨[], []⟩) := by unfold doB; rw [h]
    rw [e]
    by_cases k : 1 ≤ n ∧ n ≤ 17
    · exfalso
      have hc : n = 1 ∨ n = 2 ∨ n = 3 ∨ n = 4 ∨ n = 5 ∨ n = 6 ∨ n = 7 ∨ n = 8 ∨ n = 9 ∨ n = 10 ∨ n = 11 ∨ n = 12 ∨ n = 13 ∨ n = 14 ∨ n = 15 ∨ n = 16 ∨ n = 17 := by omega
      rcases hc with rfl | rfl | rfl | rfl | rfl | rfl | rfl | rfl | rfl | rfl | rfl | rfl | rfl | rfl | rfl | rfl | rfl <;> cases h
    · by_cases k1 : 1 ≤ n <;> by_cases k2 : n ≤ 17 <;> simp [k1, k2] <;> omega
  · have hc : n = 1 ∨ n = 2 ∨ n = 3 ∨ n = 4 ∨ n = 5 ∨ n = 6 ∨ n = 7 ∨ n = 8 ∨ n = 9 ∨ n = 10 ∨ n = 11 ∨ n = 12 ∨ n = 13 ∨ n = 14 ∨ n = 15 ∨ n = 16 ∨ n = 17 := by omega
    rcases hc with rfl | rfl | rfl | rfl | rfl | rfl | rfl | rfl | rfl | rfl | rfl | rfl | rfl | rfl | rfl | rfl | rfl <;> decide +kernel
set_option maxHeartbeats 8000000 in
set_option maxRecDepth 100000 in
theorem bounds_walk (w : World) (m : Int) (wm : (Lit.int .u16 m).wf = true) (part : Int) (wp : (Lit.int .i64 part).wf = true) :
    Calls Try.prog 6 #[.int .u16 m, .int .i64 part] w fun e w' => e = .returned (.bool true) ∧ Mod [] w w' := by
  have hm := bounds_u16 wm
  obtain ⟨n, hn⟩ := Int.eq_ofNat_of_zero_le (show 0 ≤ m % 600 by omega)
  have hn6 : n < 600 := by omega
  have hnI : (n : Int) < 600 := by omega
  have H1 := Lib.hid (shown_calls w)
  clear wm
  go_enter Try.func6, Try.ntmps6
  go_wp2_with fail
  refine (H1.out).mono ?_
  rintro e w1 ⟨rfl, hm1⟩
  have H2 := Lib.hid (mb_new hm1)
  clear hm1 H1
  go_wp2_with fail
  refine (H2.out).mono ?_
  rintro e w2 ⟨b, rfl, hb⟩
  have h0 := Lib.hid hb
  clear hb H2
  go_wp2_with fail
  rw [hn]
  clear hn
  go_loopg [23] n (fun g z wr => ∃ i : Nat, z = .int .i64 (i : Int) ∧ i + g = n ∧ RowKit.Hid (Mb w wr b (Pb i)))
  case atStart => exact ⟨0, rfl, by omega, h0⟩
  case round =>
    clear h0
    obtain ⟨i, rfl, hig, hi⟩ := hrel
    by_cases hlt : i < n
    · have hltI : (i : Int) < (n : Int) := by omega
      have k := mb_put hi.out dropX (well_op 11 (by decide))
      rw [pb_put] at k
      have HK := Lib.hid hig
      by_cases h9 : i < 499
      · have h9I : (i : Int) < 499 := by omega
        rw [if_pos h9] at k
        have H3 := Lib.hid k
        clear k hi hig h9
        go_wp2_with fail
        refine (H3.out).mono ?_
        rintro e w3 ⟨rfl, hb3⟩
        have HB3 := Lib.hid hb3
        clear hb3 H3
        go_wp2_with fail
        go_roundg (gk - 1)
        case measure => have := HK.out; omega
        case rel => exact ⟨i + 1, by go_num, by have := HK.out; omega, HB3⟩
      · have h9I : ¬ (i : Int) < 499 := by omega
        have h9J : (499 : Int) ≤ (i : Int) := by omega
        rw [if_neg h9] at k
        have H3 := Lib.hid k
        clear k hi hig h9
        go_wp2_with fail
        refine (H3.out).mono ?_
        rintro e w3 ⟨rfl, hb3⟩
        have HB3 := Lib.hid hb3
        clear hb3 H3
        go_wp2_with fail
        go_roundg (gk - 1)
        case measure => have := HK.out; omega
        case rel => exact ⟨i + 1, by go_num, by have := HK.out; omega, HB3⟩
    · have hltI : ¬ (i : Int) < (n : Int) := by omega
      obtain rfl : i = n := by omega
      have HI := Lib.hid hi.out
      clear hi hig hlt
      go_upto_region 13 with fail
      go_cut [64] (fun u wx => u = .bool false ∧ RowKit.Hid (Mod [] w wx))
      case first =>
        by_cases h9 : 499 ≤ i
        · have h9I : (499 : Int) ≤ (i : Int) := by omega
          have k := mb_do HI.out 1
          rw [pb_full i h9] at k
          have K1 := Lib.hid k
          have HP := Lib.hid h9
          clear k h9
          go_wp2_with fail
          refine (K1.out).mono ?_
          rintro e w3 ⟨rfl, hb3⟩
          have k := mb_do hb3 4
          rw [pb_begin i] at k
          have K2 := Lib.hid k
          clear k hb3 K1
          go_wp2_with fail
          refine (K2.out).mono ?_
          rintro e w4 ⟨rfl, hb4⟩
          have k := mb_do hb4 8
          rw [pb_again i HP.out] at k
          have K3 := Lib.hid k
          clear k hb4 K2
          go_wp2_with fail
          refine (K3.out).mono ?_
          rintro e w5 ⟨rfl, hb5⟩
          have K4 := Lib.hid (mb_open hb5 1 (by simp [openB, Pb]))
          have HM5 := Lib.hid hb5.m
          clear hb5 K3
          go_wp2_with fail
          refine (K4.out).mono ?_
          rintro e w6 ⟨rfl, rfl⟩
          clear K4
          go_wp2_with fail
          go_meet
          case rel => exact ⟨by simp, HM5⟩
        · have h9I : ¬ (499 : Int) ≤ (i : Int) := by omega
          have HM5 := Lib.hid HI.out.m
          clear h9
          go_wp2_with fail
          go_meet
          case rel => exact ⟨by simp, HM5⟩
      case rest =>
        obtain ⟨rfl, hmc⟩ := hcut
        have H5 := Lib.hid (mb_new hmc.out)
        clear hmc HI
        go_wp2_with fail
        refine (H5.out).mono ?_
        rintro e w3 ⟨c, rfl, hc⟩
        have h0 := Lib.hid hc
        clear hc H5
        go_wp2_with fail
        go_loopg [66] 32 (fun g z wr => ∃ j : Nat, z = .int .i64 (j : Int) ∧ j + g = 32 ∧ RowKit.Hid (Mb w wr c (Pg j)))
        case atStart => exact ⟨0, rfl, by omega, h0⟩
        case round =>
          clear h0
          obtain ⟨j, rfl, hjg, hj⟩ := hrel
          by_cases hlt : j < 32
          · have hltI : (j : Int) < 32 := by omega
            have k := mb_do hj.out 4
            rw [pg_begin j hlt] at k
            have K1 := Lib.hid k
            have HK := Lib.hid hjg
            clear k hj hjg hlt
            go_wp2_with fail
            refine (K1.out).mono ?_
            rintro e w4 ⟨rfl, hb4⟩
            have HB4 := Lib.hid hb4
            clear hb4 K1
            go_wp2_with fail
            go_roundg (gk - 1)
            case measure => have := HK.out; omega
            case rel => exact ⟨j + 1, by go_num, by have := HK.out; omega, HB4⟩
          · have hltI : ¬ (j : Int) < 32 := by omega
            obtain rfl : j = 32 := by omega
            have K1 := Lib.hid (end_none wr)
            have HJ := Lib.hid hj.out
            clear hj hjg hlt
            go_wp2_with fail
            refine (K1.out).mono ?_
            rintro e w4 ⟨rfl, hm4⟩
            have mA := (Mod.refl [] w4).alloc (.cells #[.slice none 0 0] 41)
            have k := mb_do (HJ.out.far (hm4.trans mA)) 4
            rw [pg_full] at k
            have K2 := Lib.hid k
            clear k hm4 mA K1
            obtain ⟨r1, hr1⟩ : ∃ r1, r1 = (doB part ⟨[], []⟩).1 := ⟨_, rfl⟩
            have hnd := new_do part
            rw [← hr1] at hnd
            have HR1 := Lib.hid hr1
            clear hr1
            have hcase : (¬ 1 ≤ part ∧ (r1 == 1) = true) ∨ ((1 ≤ part ∧ part ≤ 17) ∧ (r1 == 1) = false) ∨ ((1 ≤ part ∧ ¬ part ≤ 17) ∧ (r1 == 1) = true) := by
              by_cases h1 : 1 ≤ part
              · by_cases h2 : part ≤ 17
                · exact Or.inr (Or.inl ⟨⟨h1, h2⟩, by rw [hnd]; simp [h1, h2]⟩)
                · exact Or.inr (Or.inr ⟨⟨h1, h2⟩, by rw [hnd]; simp [h1, h2]⟩)
              · exact Or.inl ⟨h1, by rw [hnd]; simp [h1]⟩
            clear hnd
            rcases hcase with ⟨hp, q⟩ | ⟨⟨hp, hp2⟩, q⟩ | ⟨⟨hp, hp2⟩, q⟩
            all_goals
              go_wp2_with fail
              refine (K2.out).mono ?_
              rintro e w5 ⟨rfl, hb5⟩
              have k := mb_do hb5 5
              rw [pg_while] at k
              have K3 := Lib.hid k
              clear k hb5
              go_wp2_with fail
              refine (K3.out).mono ?_
              rintro e w6 ⟨rfl, hb6⟩
              have K4 := Lib.hid (mb_open hb6 32 (by simp [Pg]))
              have HM6 := Lib.hid hb6.m
              clear hb6 K3
              go_wp2_with fail
              refine (K4.out).mono ?_
              rintro e w7 ⟨rfl, rfl⟩
              have K5 := Lib.hid (mb_new HM6.out)
              clear K4
              go_wp2_with fail
              refine (K5.out).mono ?_
              rintro e w8 ⟨d, rfl, hd⟩
              have k := mb_do hd part
              rw [← HR1.out] at k
              have K6 := Lib.hid k
              clear k hd K5
              go_wp2_with fail
              refine (K6.out).mono ?_
              rintro e w9 ⟨rfl, hd9⟩
              have HM9 := Lib.hid hd9.m
              have K7 := Lib.hid (do_nobody w9 part)
              have K8 := Lib.hid (len_none w9)
              have K9 := Lib.hid (open_none w9)
              clear hd9 K6
              go_wp2_with fail
              refine (K7.out).mono ?_
              rintro e w10 ⟨rfl, rfl⟩
              go_wp2_with fail
              refine (K8.out).mono ?_
              rintro e w10 ⟨rfl, rfl⟩
              go_wp2_with fail
              refine (K9.out).mono ?_
              rintro e w10 ⟨rfl, rfl⟩
              go_wp2_with fail
              go_ret
              exact ⟨by first | (simp; done) | (simp; omega), HM9.out⟩
end Go.Proofs.Ytnclfopdgilgaaa
