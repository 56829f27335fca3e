/- Layer 5: MemGives's walk. Condition: the argument is a slice of numbers of its kind. -/
import Derived.Test.YtahnbllmgalgpaaM5P
namespace Go.Proofs.Ytahnbllmgalgpaa
open Go.RowKit Go.ChangeShapes
set_option linter.unusedVariables false

theorem Row.nums {kd : IntKind} {w : World} {A : Option Addr} {len cap : Nat} {zs : List Int} (h : Row kd w A len cap zs) (j : Nat) (hj : j < len) :
    ∃ b off, A = some ⟨b, off, none⟩ ∧ w.cell? ⟨b, off + j, none⟩ = some (.int kd (zs.getD j 0)) ∧ (Lit.int kd (zs.getD j 0)).wf = true := by
  rcases h with ⟨_, h1, _, _⟩ | ⟨x, hx, h1, h2, h3, h4, h5⟩
  · omega
  · have hz : 0 < zs.length := by omega
    obtain ⟨b, off, rfl, hc⟩ := ints_at h4 hz
    refine ⟨b, off, hx, hc j (by omega), ?_⟩
    have hjl : j < zs.length := by omega
    have e : zs.getD j 0 = zs[j] := by simp [List.getD, hjl]
    rw [e]
    exact h5 _ (List.getElem_mem hjl)
theorem Try.size16 : ∀ w, (Go.sizeOf 61).run Try.prog w = .ok 1 w := fun w => by kernel_rfl
theorem comma_neg {w : World} {p q : Nat} {B : List UInt8} {h : Int} (m : Mm w p q B h) (o : Nat) (x : Int) (hx : I64 x) (ho : h = (o : Int)) (h8 : o % 8 = 0) (hb : o + 8 + 512 ≤ B.length) :
    Calls Try.prog 28 #[Pt p, .int .i64 x] w fun e w' => e = .returned (.int .i64 0) ∧ Mm w' p q (splice B o (le8 x)) (h + 8) ∧ Kept p q w w' := by
  subst ho
  exact comma_ok m x hx (by omega) (by unfold inH; exact decide_eq_true ⟨by omega, by omega⟩)
set_option maxHeartbeats 2000000 in
set_option maxRecDepth 100000 in
theorem gives_walk (w : World) (A : Option Addr) (len cap : Nat) (zs : List Int) (R0 : Row .i16 w A len cap zs) :
    Calls Try.prog 7 #[.slice A len cap] w fun e w' => e = .returned (.bool true) ∧ Ext w w' := by
  have hle := R0.le
  obtain ⟨k, hk⟩ : ∃ k, k = min len 60 := ⟨_, rfl⟩
  have hk1 : k ≤ 60 := by omega
  have HKK := Lib.hid hk
  have HR := Lib.hid (fun j (hj : j < k) => R0.nums j (by omega))
  have s1 := fun W => slice_upto W 60 61 Try.underlying60 Try.size16 A len cap len (by omega)
  have s2 := fun W (h : ¬ (len : Int) ≤ 60) => slice_upto W 60 61 Try.underlying60 Try.size16 A len cap 60 (by omega)
  have HS1 := Lib.hid s1
  have HS2 := Lib.hid (show ∀ W, ¬ (len : Int) ≤ 60 → (Instr.sliceAt 60 (.slice A len cap) none (some (.int .i64 60)) none).run Try.prog W = .ok (.slice A 60 cap) W from s2)
  clear R0 hk s1 s2
  have hS := Lib.hid (shown_calls w)
  go_enter Try.func7, Try.ntmps7
  go_wp2_with fail
  refine (hS.out).mono ?_
  rintro e w0 ⟨rfl, hx0⟩
  have hN := Lib.hid (new_lit 1024 1024 rfl w0 (by omega) (by omega) (by omega))
  go_wp2_with fail
  refine (hN.out).mono ?_
  rintro e w1 ⟨p, q, rfl, hm, hx1, hp, hq⟩
  have HX := hx0.trans hx1
  have HP := Lib.hid (And.intro (Nat.le_trans hx0.1.size hp) (Nat.le_trans hx0.1.size hq))
  clear hx0 hx1 hN hS hp hq
  have h1 := HS1.out w1
  have h2 := HS2.out w1
  go_upto_region 6 with fail
  go_cut [31, 32, 33] (fun a b c wx => a = .slice A k cap ∧ b = .int .i64 (k : Int) ∧ c = .int .i64 0 ∧ w1 = wx)
  case first =>
    go_wp2_with fail
    all_goals
      go_meet
      have e := HKK.out
      first
      | (have e2 : k = len := by omega
         subst e2; exact ⟨rfl, rfl, rfl, rfl⟩)
      | (have e2 : k = 60 := by omega
         subst e2; exact ⟨rfl, rfl, rfl, rfl⟩)
  case rest =>
    obtain ⟨rfl, rfl, rfl, rfl⟩ := hcut
    clear h1 h2 HS1 HS2 HKK
    have hz : (zeros 1024).length = 1024 := List.length_replicate
    have HZ := Lib.hid hz
    clear hz
    go_wp2_with fail
    go_loopw [33, 6] (fun i u wr => ∃ (j : Nat) (h : Int), j ≤ k ∧ i = .int .i64 j ∧ u = .int .i64 h ∧ 0 ≤ h ∧ h ≤ 512 ∧ Mm wr p q (zeros 1024) h ∧ Ext w wr) (fun i _ _ => k - (intOf i).toNat)
    case atStart => exact ⟨0, 0, by omega, rfl, rfl, by omega, by omega, hm, HX⟩
    case round =>
      clear hm HX
      obtain ⟨j, h, hj, rfl, rfl, b0, b1, hm, hX⟩ := hrel
      by_cases hlt : j < k
      · obtain ⟨b, off, rfl, hc, hwf⟩ := HR.out j hlt
        obtain ⟨z, hz⟩ : ∃ z, z = zs.getD j 0 := ⟨_, rfl⟩
        rw [← hz] at hc hwf
        have hb := bounds_i16 hwf
        have hcw := ext_keeps hX hc
        have HXX := Lib.hid hX
        clear hc hwf hz HR hX
        by_cases hok : 0 ≤ h + z ∧ h + z ≤ 512
        · have HA := Lib.hid (allot_ok hm z (by unfold inH; rw [HZ.out]; exact decide_eq_true ⟨by omega, by omega⟩))
          obtain ⟨o1, o2⟩ := hok
          clear hm
          go_wp2_with fail
          refine (HA.out).mono ?_
          rintro e w2 ⟨rfl, hm, hkp⟩
          have HH := Lib.hid (here_calls hm)
          have HX2 := Lib.hid (HXX.out.kept hkp HP.out.1 HP.out.2)
          have HM := Lib.hid hm
          clear HA hkp hm hcw
          go_wp2_with ((with_reducible refine (HH.out).mono ?_); rintro e w' ⟨rfl, rfl⟩)
          go_roundw
          case rel => exact ⟨j + 1, _, by omega, by go_num, rfl, o1, o2, HM.out, HX2.out⟩
          case measure => simp [intOf]; omega
        · have HA := Lib.hid (allot_no hm z (by unfold I64; omega) (by unfold inH; rw [HZ.out]; exact decide_eq_false (by omega)))
          have HH := Lib.hid (here_calls hm)
          have HM := Lib.hid hm
          clear hm
          by_cases hneg : h + z < 0
          · clear hok
            go_wp2_with (first | ((with_reducible refine (HA.out).mono ?_); rintro e w' ⟨rfl, rfl⟩) | ((with_reducible refine (HH.out).mono ?_); rintro e w' ⟨rfl, rfl⟩))
            go_roundw
            case rel => exact ⟨j + 1, _, by omega, by go_num, rfl, b0, b1, HM.out, HXX.out⟩
            case measure => simp [intOf]; omega
          · have hbig : 512 < h + z := by omega
            clear hok hneg
            go_wp2_with (first | ((with_reducible refine (HA.out).mono ?_); rintro e w' ⟨rfl, rfl⟩) | ((with_reducible refine (HH.out).mono ?_); rintro e w' ⟨rfl, rfl⟩))
            go_roundw
            case rel => exact ⟨j + 1, _, by omega, by go_num, rfl, b0, b1, HM.out, HXX.out⟩
            case measure => simp [intOf]; omega
      · have hk2 : j = k := by omega
        subst hk2
        clear hj hlt HR
        obtain ⟨o, ho⟩ : ∃ o : Nat, (h + 7) / 8 * 8 = (o : Int) := ⟨((h + 7) / 8 * 8).toNat, by omega⟩
        have o1 : o ≤ 512 := by omega
        have o8 : o % 8 = 0 := by omega
        have hup : h + upN h = (o : Int) := by unfold upN; omega
        have hal := align_calls hm (allot_ok hm (upN h) (by unfold inH; rw [HZ.out]; exact decide_eq_true ⟨by omega, by omega⟩))
        rw [hup] at hal
        have HA := Lib.hid hal
        have HX := Lib.hid hX
        have HO8 := Lib.hid o8
        clear hm hX hal hup o8
        go_wp2_with fail
        refine (HA.out).mono ?_
        rintro e w2 ⟨rfl, hm, hkp⟩
        have HH := Lib.hid (here_calls hm)
        have HX2 := HX.out.kept hkp HP.out.1 HP.out.2
        clear HA HX hkp b0 b1 ho
        by_cases hend : o = 512
        · subst hend
          have HC := Lib.hid (comma_no hm (-3) (by omega) (by unfold inH; rw [HZ.out]; rfl))
          have HG := Lib.hid (get_lit hm 512 512 rfl (by rw [HZ.out]; omega) (by omega))
          generalize cellOf (((zeros 1024).drop 512).take 8) = y at HG
          have HX3 := Lib.hid HX2
          have HH2 := Lib.hid (show Calls Try.prog 16 #[Pt p] w2 fun e w' => e = .returned (.int .i64 512) ∧ w2 = w' from HH.out)
          clear hm HX2 HO8 o1 HH
          go_wp2_with (first | ((with_reducible refine (HH2.out).mono ?_); rintro e w' ⟨rfl, rfl⟩) | ((with_reducible refine (HC.out).mono ?_); rintro e w' ⟨rfl, rfl⟩) | ((with_reducible refine (HG.out).mono ?_); rintro e w' ⟨rfl, rfl⟩))
          go_ret
          exact ⟨rfl, HX3.out⟩
        · have o2 : o ≤ 504 := by have := HO8.out; omega
          have HC := Lib.hid (comma_neg hm o (-3) (by unfold I64; omega) rfl HO8.out (by rw [HZ.out]; omega))
          have e1 : ((o : Int) == 512) = false := by rw [beq_eq_false_iff_ne]; omega
          have HX3 := Lib.hid HX2
          clear hm HX2 o1 hend
          go_wp2_with ((with_reducible refine (HH.out).mono ?_); rintro e w' ⟨rfl, rfl⟩)
          refine (HC.out).mono ?_
          rintro e w3 ⟨rfl, hm, hkp⟩
          have HX4 := Lib.hid (HX3.out.kept hkp HP.out.1 HP.out.2)
          have HG := Lib.hid (get_back o (-3) (by unfold I64; omega) (by rw [HZ.out]; omega) HO8.out hm)
          have HH2 := Lib.hid (here_calls hm)
          have hl : (splice (zeros 1024) o (le8 (-3))).length = 1024 := by rw [splice_len (by rw [le8_len, HZ.out]; omega), HZ.out]
          by_cases hlast : o = 504
          · have e2 : ((o : Int) + 8 == 512) = true := by rw [beq_iff_eq]; omega
            clear hlast hkp HX3 HC HH hl hm
            go_wp2_with (first | ((with_reducible refine (HH2.out).mono ?_); rintro e w' ⟨rfl, rfl⟩) | ((with_reducible refine (HG.out).mono ?_); rintro e w' ⟨rfl, rfl⟩))
            go_ret
            exact ⟨rfl, HX4.out⟩
          · have e2 : ((o : Int) + 8 == 512) = false := by rw [beq_eq_false_iff_ne]; omega
            have HCC := Lib.hid (show Calls Try.prog 29 #[Pt p, .int .u8 9] w3 fun e w' => e = .returned (.int .i64 0) ∧ Mm w' p q (splice (splice (zeros 1024) o (le8 (-3))) ((o : Int) + 8).toNat [9]) ((o : Int) + 8 + 1) ∧ Kept p q w3 w' from ccomma_ok hm 9 (by unfold inH; rw [hl]; exact decide_eq_true ⟨by omega, by have := HO8.out; omega⟩))
            have HL := Lib.hid (show (o : Int) < 504 by omega)
            clear hlast hkp HX3 HC HH hl hm
            go_wp2_with (first | ((with_reducible refine (HH2.out).mono ?_); rintro e w' ⟨rfl, rfl⟩) | ((with_reducible refine (HG.out).mono ?_); rintro e w' ⟨rfl, rfl⟩))
            refine (HCC.out).mono ?_
            rintro e w4 ⟨rfl, hm, hkp⟩
            have HX5 := Lib.hid (HX4.out.kept hkp HP.out.1 HP.out.2)
            have HF := Lib.hid (comma_off hm 1 (by have := HO8.out; omega))
            clear hm hkp HX4 HCC HH2 HG
            go_wp2_with ((with_reducible refine (HF.out).mono ?_); rintro e w' ⟨rfl, rfl⟩)
            go_ret
            exact ⟨rfl, HX5.out⟩
end Go.Proofs.Ytahnbllmgalgpaa
