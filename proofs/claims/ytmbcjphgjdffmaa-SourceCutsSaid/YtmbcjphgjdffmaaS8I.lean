/- Layer 8: places that are sought, and numbers of sources that are never told again (SourceSeeks). No condition. -/
import Derived.Test.YtmbcjphgjdffmaaS8H
import Derived.Test.YtmbcjphgjdffmaaS7C
import Derived.OpenShut
namespace Go.Proofs.Ytmbcjphgjdffmaa
open Go.RowKit
set_option linter.unusedVariables false

theorem u8_of {a : Int} (h : (Lit.int .u8 a).wf = true) : ∃ c : UInt8, a = (c.toNat : Int) := by
  have h2 := bounds_u8 h
  obtain ⟨n, rfl⟩ := Int.eq_ofNat_of_zero_le h2.1
  refine ⟨n.toUInt8, ?_⟩
  rw [Nat.toUInt8_eq, UInt8.toNat_ofNat', Nat.mod_eq_of_lt (by omega)]
/-- The first 1000 bytes of a text. -/
def cutS (S : ByteArray) : List UInt8 := S.data.toList.take 1000
theorem cutS_len (S : ByteArray) : (cutS S).length ≤ 1000 := by unfold cutS; rw [List.length_take]; omega
theorem cutS_short (S : ByteArray) (h : S.size ≤ 1000) : S = str (cutS S) := by
  have hl : S.data.toList.length = S.size := by rw [Array.length_toList]; rfl
  unfold cutS
  rw [List.take_of_length_le (by omega)]
  exact str_back S
theorem cutS_long (S : ByteArray) : S.extract 0 1000 = str (cutS S) := by
  have h := str_extract S.data.toList 0 1000
  rw [← str_back S] at h
  rw [h, List.drop_zero, Nat.sub_zero]
  rfl
set_option maxHeartbeats 8000000 in
set_option maxRecDepth 100000 in
theorem seeks_walk (w : World) (S : ByteArray) (a b : Int) (hs : S.size ≤ maxLen) (ha : (Lit.int .i64 a).wf = true) (hb : (Lit.int .u8 b).wf = true) :
    Calls Try.prog 6 #[.string S, .int .i64 a, .int .u8 b] w fun e w' => e = .returned (.bool true) ∧ Mod [] w w' := by
  obtain ⟨c, rfl⟩ := u8_of hb
  have hI := i64_of_wf ha
  unfold maxLen at hs
  have hcl := cutS_len S
  have hc1 := cutS_short S
  have hc2 := cutS_long S
  obtain ⟨T, hT⟩ : ∃ T, T = cutS S := ⟨_, rfl⟩
  rw [← hT] at hcl hc1 hc2
  obtain ⟨X, hX⟩ : ∃ X, X = str T := ⟨_, rfl⟩
  rw [← hX] at hc1 hc2
  have HC1 := Lib.hid hc1
  have HC2 := Lib.hid hc2
  have HX := Lib.hid hX
  have hXs : X.size = T.length := by rw [hX, str_size]
  have HXS := Lib.hid hXs
  clear hT hc1 hc2 hX hXs ha hb
  have H0 := Lib.hid (shown_calls w)
  go_enter Try.func6, Try.ntmps6
  go_wp2_with fail
  refine (H0.out).mono ?_
  rintro e w1 ⟨rfl, hm1⟩
  have HM1 := Lib.hid hm1
  clear hm1
  go_upto_region 2 with fail
  go_cut [8] (fun u wx => u = .string X ∧ w1 = wx)
  case first =>
    by_cases hc : S.size ≤ 1000
    · have hc2 : (S.size : Int) ≤ 1000 := by omega
      go_wp2_with fail
      all_goals
        go_meet
        exact ⟨by rw [← HC1.out hc], rfl⟩
    · have hc2 : ¬ (S.size : Int) ≤ 1000 := by omega
      go_wp2_with fail
      all_goals
        go_meet
        exact ⟨by rw [← HC2.out], rfl⟩
  case rest =>
    obtain ⟨rfl, rfl⟩ := hcut
    have H1 := Lib.hid (Mine.new w1)
    go_wp2_with fail
    refine (H1.out).mono ?_
    rintro e w2 ⟨p, rfl, h2⟩
    have k := Mine.open h2 T hcl (by simp) (by omega)
    rw [← HX.out] at k
    have H2 := Lib.hid k
    clear h2 k
    go_wp2_with fail
    refine (H2.out).mono ?_
    rintro e w3 ⟨rfl, S3, h3, _⟩
    have H3 := Lib.hid (h3.of (seek_top (B := []) h3.i a hI))
    clear h3
    go_wp2_with fail
    refine (H3.out).mono ?_
    rintro e w4 ⟨rfl, S4, h4, _⟩
    have hne := heldN_le T.length a
    have hmx : min (max a 0) (X.size : Int) = ((heldN T.length a : Nat) : Int) := by rw [HXS.out]; unfold heldN; omega
    obtain ⟨k, hk⟩ : ∃ k, k = heldN T.length a := ⟨_, rfl⟩
    rw [← hk] at h4 hne hmx
    clear hk
    have HMX := Lib.hid hmx
    have HMI := Lib.hid h4
    clear hmx h4
    have hXb : (X.size : Int) ≤ 1000 := by rw [HXS.out]; omega
    go_upto_region 7 with fail
    go_cut [10] (fun u wx => u = .int .i64 (k : Int) ∧ w4 = wx)
    case first =>
      go_wp2_with fail
      all_goals
        go_meet
        exact ⟨by rw [← HMX.out]; congr 1; omega, rfl⟩
    case rest =>
      obtain ⟨rfl, rfl⟩ := hcut
      have H4 := Lib.hid (save_top (B := []) HMI.out.i)
      go_wp2_with fail
      refine (H4.out).mono ?_
      rintro e w5 ⟨rfl, hm5⟩
      have h5 := HMI.out.far hm5
      have H5 := Lib.hid (in_top (B := []) h5.i)
      have HMI5 := Lib.hid h5
      clear h5 hm5
      obtain ⟨m, hm21, hmm⟩ : ∃ m : Nat, (c.toNat : Int) % 21 = (m : Int) ∧ m < 21 := ⟨c.toNat % 21, by omega, Nat.mod_lt _ (by omega)⟩
      go_wp2_with fail
      refine (H5.out).mono ?_
      rintro e w5 ⟨rfl, rfl⟩
      go_wp2_with fail
      rw [hm21]
      clear hm21
      go_loopw [62] (fun v wr => ∃ (i : Nat) (S : List Nat), v = .int .u8 (i : Int) ∧ i ≤ m ∧ Mine w1 wr p S [⟨T, k, 1⟩] (i + 1)) (fun v _ => m - (intOf v).toNat)
      case atStart => exact ⟨0, S4, rfl, by omega, HMI5.out⟩
      case round =>
        obtain ⟨i, R, rfl, him, hmi⟩ := hrel
        by_cases hlt : i < m
        · have hltI : (i : Int) < (m : Int) := by omega
          have kk := Mine.open hmi T hcl (by simp) (by omega)
          rw [← HX.out] at kk
          have K1 := Lib.hid kk
          clear kk hmi
          go_wp2_with fail
          refine (K1.out).mono ?_
          rintro e u1 ⟨rfl, R1, g1, _⟩
          obtain ⟨y, hy⟩ : ∃ y : Int, y = ((i + 1 + 1 : Nat) : Int) := ⟨_, rfl⟩
          have K2 := Lib.hid (show Calls Try.prog 11 #[Pt p] u1 (Tells (.tuple #[.int .i64 y, .int .i64 0]) u1) by rw [hy]; exact save_top (B := [⟨T, k, 1⟩]) g1.i)
          have q2 : (i : Int) + 2 = y := by omega
          have G1 := Lib.hid g1
          clear g1 hy
          go_wp2_with fail
          refine (K2.out).mono ?_
          rintro e u2 ⟨rfl, um⟩
          have g2 := G1.out.far um
          have K3 := Lib.hid (restore_no (B := [⟨T, k, 1⟩]) g2.i 1 0 (fun h => by have := h.1; simp at this; omega) (by unfold I64; omega))
          have K4 := Lib.hid (Mine.close (B := [⟨T, k, 1⟩]) g2)
          clear g2 um
          go_wp2_with fail
          refine (K3.out).mono ?_
          rintro e u3 ⟨rfl, rfl⟩
          go_wp2_with fail
          refine (K4.out).mono ?_
          rintro e u4 ⟨rfl, R4, g4, _⟩
          have K5 := Lib.hid (in_top (B := []) g4.i)
          have G4 := Lib.hid g4
          clear g4
          go_wp2_with fail
          refine (K5.out).mono ?_
          rintro e u5 ⟨rfl, rfl⟩
          go_wp2_with fail
          clear q2
          go_roundw
          case rel => exact ⟨i + 1, R4, by go_num, by omega, G4.out⟩
          case measure => simp [intOf]; omega
        · have hltI : ¬ (i : Int) < (m : Int) := by omega
          have K1 := Lib.hid (Mine.word (B := []) hmi)
          have K2 := Lib.hid (fun W => rword_calls T (by omega) (k : Int) W)
          rw [← HX.out] at K2
          obtain ⟨g, hg⟩ : ∃ g, g = wordL T (k : Int) := ⟨_, rfl⟩
          dsimp only at K1
          rw [← hg] at K1 K2
          obtain ⟨Y, hY⟩ : ∃ Y, Y = str g.1 := ⟨_, rfl⟩
          rw [← hY] at K1 K2
          clear hmi hg hY
          go_wp2_with fail
          refine (K1.out).mono ?_
          rintro e u1 ⟨rfl, R1, g1, _⟩
          have K3 := Lib.hid (in_top (B := []) g1.i)
          have HM := Lib.hid (HM1.out.trans g1.m)
          clear g1
          go_wp2_with fail
          refine (K2.out _).mono ?_
          rintro e u2 ⟨rfl, rfl⟩
          go_wp2_with fail
          refine (K3.out).mono ?_
          rintro e u2 ⟨rfl, rfl⟩
          go_wp2_with fail
          go_ret
          exact ⟨rfl, HM.out⟩
end Go.Proofs.Ytmbcjphgjdffmaa
