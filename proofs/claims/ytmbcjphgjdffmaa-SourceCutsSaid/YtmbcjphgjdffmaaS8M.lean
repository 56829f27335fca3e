/- Layer 8: sources that are cut off are gone as if each was closed (SourceCuts). No condition. -/
import Derived.Test.YtmbcjphgjdffmaaS8L
namespace Go.Proofs.Ytmbcjphgjdffmaa
open Go.RowKit
set_option linter.unusedVariables false

theorem v_int {a b : Int} (h : a = b) : Value.int .i64 a = Value.int .i64 b := by rw [h]
theorem take_snoc (K : List Sc) (k : Nat) (h : k < K.length) : K.take (k + 1) = K.take k ++ [K[k]] := by rw [List.take_succ_eq_append_getElem h]
set_option maxHeartbeats 16000000 in
set_option maxRecDepth 100000 in
theorem cuts_walk (w : World) (A : Option Addr) (n cap : Nat) (L : List ByteArray) (b : Int) (hn : n = L.length) (hA : TextsIn w A L) (hcap : n ≤ cap) (hn2 : n ≤ 9223372036854775807) (hb : (Lit.int .i64 b).wf = true) :
    Calls Try.prog 5 #[.slice A n cap, .int .i64 b] w fun e w' => e = .returned (.bool true) ∧ Mod [] w w' := by
  have hI := i64_of_wf hb
  have HI := Lib.hid hI
  have HA := Lib.hid hA
  have HN := Lib.hid hn
  obtain ⟨m, hm⟩ : ∃ m, m = min n 8 := ⟨_, rfl⟩
  have hm8 : m ≤ 8 := by omega
  have hmn : m ≤ n := by omega
  have hup := texts_upto A n cap m (by omega)
  have HMM := Lib.hid hm
  clear hb hA hn hm
  unfold I64 at hI
  have H0 := Lib.hid (shown_calls w)
  go_enter Try.func5, Try.ntmps5
  go_wp2_with fail
  refine (H0.out).mono ?_
  rintro e w1 ⟨rfl, hm1⟩
  have HM1 := Lib.hid hm1
  have H1 := Lib.hid (Mine.new w1)
  clear hm1
  go_wp2_with fail
  refine (H1.out).mono ?_
  rintro e w2 ⟨p, rfl, h2⟩
  have H2 := Lib.hid (Both.new h2)
  clear h2
  go_wp2_with fail
  refine (H2.out).mono ?_
  rintro e w3 ⟨q, rfl, h3⟩
  have B3 := Lib.hid h3
  clear h3
  go_upto_region 5 with fail
  go_cut [8] (fun u wx => u = .slice A m cap ∧ w3 = wx)
  case first =>
    by_cases hc : n ≤ 8
    · have hc2 : (n : Int) ≤ 8 := by omega
      have e : m = n := by have := HMM.out; omega
      rw [e] at hup
      go_wp2_with fail
      all_goals
        go_meet
        exact ⟨by rw [e], rfl⟩
    · have hc2 : ¬ (n : Int) ≤ 8 := by omega
      have e : m = 8 := by have := HMM.out; omega
      subst e
      simp only [Int.cast_ofNat_Int] at hup
      go_wp2_with fail
      all_goals
        go_meet
        exact ⟨rfl, rfl⟩
  case rest =>
    obtain ⟨rfl, rfl⟩ := hcut
    clear hup
    have hm8I : (m : Int) ≤ 8 := by omega
    go_wp2_with fail
    go_loopw [10, 11, 32] (fun _ _ v wr => ∃ (j : Nat) (S T : List Nat) (K : List Sc), v = .int .i64 (j : Int) ∧ j ≤ m ∧ K.length = j ∧ RowKit.Hid (Both w1 wr p S K j q T K j)) (fun _ _ v _ => m - (intOf v).toNat)
    case atStart => exact ⟨0, _, _, [], rfl, by omega, rfl, B3⟩
    case round =>
      obtain ⟨j, S, T, K, rfl, hjm, hK, hbo⟩ := hrel
      by_cases hlt : j < m
      · have hltI : (j : Int) < (m : Int) := by omega
        obtain ⟨x, hAx, hc⟩ := (HA.out.mod (HM1.out.trans hbo.out.a.m)).cell j (by rw [← HN.out]; omega)
        have hXs := HA.out.size _ (List.getElem_mem (show j < L.length by rw [← HN.out]; omega))
        obtain ⟨X, hX⟩ : ∃ X, X = L[j]'(by rw [← HN.out]; omega) := ⟨_, rfl⟩
        rw [← hX] at hc hXs
        have HK := Lib.hid hK
        have hcl := cutS_len X
        have hc1 := cutS_short X
        have hc2 := cutS_long X
        obtain ⟨U, hU⟩ : ∃ U, U = cutS X := ⟨_, rfl⟩
        rw [← hU] at hcl hc1 hc2
        obtain ⟨Y, hY⟩ : ∃ Y, Y = str U := ⟨_, rfl⟩
        rw [← hY] at hc1 hc2
        have HC1 := Lib.hid hc1
        have HC2 := Lib.hid hc2
        have HY := Lib.hid hY
        subst hAx
        clear hX hK hc1 hc2 hU hY
        go_upto_region 9 with fail
        go_cut [11] (fun u wx => u = .string Y ∧ wr = wx)
        case first =>
          by_cases hc : X.size ≤ 1000
          · have hc2 : (X.size : Int) ≤ 1000 := by omega
            go_wp2_with fail
            all_goals
              go_meet
              exact ⟨by rw [← HC1.out hc], rfl⟩
          · have hc2 : ¬ (X.size : Int) ≤ 1000 := by omega
            go_wp2_with fail
            all_goals
              go_meet
              exact ⟨by rw [← HC2.out], rfl⟩
        case rest =>
          obtain ⟨rfl, rfl⟩ := hcut
          have k1 := hbo.out.of (open_ok hbo.out.a.i U hcl (by have := HK.out; omega) (by omega))
          rw [← HY.out] at k1
          have K1 := Lib.hid k1
          clear k1 hbo hc
          go_wp2_with fail
          refine (K1.out).mono ?_
          rintro e u1 ⟨rfl, S1, T1, g1⟩
          have k2 := g1.of2 (open_ok g1.b.i U hcl (by have := HK.out; omega) (by omega))
          rw [← HY.out] at k2
          have K2 := Lib.hid k2
          clear k2 g1
          go_wp2_with fail
          refine (K2.out).mono ?_
          rintro e u2 ⟨rfl, S2, T2, g2⟩
          have K3 := Lib.hid (g2.of (word_top g2.a.i))
          clear g2
          go_wp2_with fail
          refine (K3.out).mono ?_
          rintro e u3 ⟨rfl, S3, T3, g3⟩
          have K4 := Lib.hid (g3.of2 (word_top g3.b.i))
          clear g3
          go_wp2_with fail
          refine (K4.out).mono ?_
          rintro e u4 ⟨rfl, S4, T4, g4⟩
          have G4 := Lib.hid g4
          clear g4
          go_wp2_with fail
          go_roundw
          case rel => exact ⟨j + 1, S4, T4, _, by go_num, by omega, by have := HK.out; simp; omega, G4⟩
          case measure => simp [intOf]; omega
      · have hltI : ¬ (j : Int) < (m : Int) := by omega
        obtain rfl : j = m := by omega
        have k5 := hbo.out.of (cut_ok hbo.out.a.i b HI.out)
        rw [hK] at k5
        have hh : ((heldN j b : Nat) : Int) = min (max b 0) (j : Int) := by unfold heldN; omega
        have hhj := heldN_le j b
        obtain ⟨h, hhe⟩ : ∃ h, h = heldN j b := ⟨_, rfl⟩
        rw [← hhe] at k5 hh hhj
        have HH := Lib.hid hh
        have K5 := Lib.hid k5
        have HK := Lib.hid hK
        clear k5 hh hhe hbo hK hlt hjm
        go_wp2_with fail
        refine (K5.out).mono ?_
        rintro e u5 ⟨rfl, S5, T5, g5⟩
        have G5 := Lib.hid g5
        clear g5 hltI
        obtain ⟨d, hd⟩ : ∃ d, d = j - h := ⟨_, rfl⟩
        have hdI : (d : Int) = (j : Int) - (h : Int) := by omega
        have HD := Lib.hid (And.intro hd hdI)
        have hdj : d ≤ j := by omega
        clear hd hdI
        go_upto_region 16 with fail
        go_cut [62, 63] (fun u v wx => u = .int .i64 (d : Int) ∧ v = .int .i64 0 ∧ u5 = wx)
        case first =>
          go_wp2_with fail
          all_goals
            go_meet
            exact ⟨v_int (by have h1 := HH.out; have h2 := HD.out.2; omega), rfl, rfl⟩
        case rest =>
          obtain ⟨rfl, rfl, rfl⟩ := hcut
          go_wp2_with fail
          go_loopw [63] (fun v wr => ∃ (i : Nat) (S T : List Nat), v = .int .i64 (i : Int) ∧ i ≤ d ∧ RowKit.Hid (Both w1 wr p S (K.take h) j q T (K.take (j - i)) j)) (fun v _ => d - (intOf v).toNat)
          case atStart => exact ⟨0, _, _, rfl, by omega, Lib.hid (by have e : K.take (j - 0) = K := (by rw [Nat.sub_zero]; exact List.take_of_length_le (by have := HK.out; omega)); rw [e]; exact G5.out)⟩
          case round =>
            obtain ⟨i, S6, T6, rfl, hid, hbi⟩ := hrel
            by_cases hlt : i < d
            · have hltI : (i : Int) < (d : Int) := by omega
              have e1 : K.take (j - i) = K.take (j - (i + 1)) ++ [K[j - (i + 1)]'(by have := HK.out; omega)] := by
                rw [show j - i = j - (i + 1) + 1 by omega]
                exact take_snoc K _ _
              have hbj := hbi.out
              rw [e1] at hbj
              have K6 := Lib.hid (hbj.of2 (close_ok hbj.b.i))
              clear hbj hbi e1
              go_wp2_with fail
              refine (K6.out).mono ?_
              rintro e u6 ⟨rfl, S7, T7, g7⟩
              have G7 := Lib.hid g7
              clear g7
              go_wp2_with fail
              go_roundw
              case rel => exact ⟨i + 1, S7, T7, by go_num, by omega, G7⟩
              case measure => simp [intOf]; omega
            · have hltI : ¬ (i : Int) < (d : Int) := by omega
              obtain rfl : i = d := by omega
              have e1 : j - i = h := by have := HD.out.1; omega
              have hbj := hbi.out
              rw [e1] at hbj
              have hKh : (K.take h).length = h := by rw [List.length_take]; have := HK.out; omega
              obtain ⟨N, hN⟩ : ∃ N, N = K.take h := ⟨_, rfl⟩
              rw [← hN] at hbj hKh
              obtain ⟨Z, hZ⟩ : ∃ Z, Z = lastS N := ⟨_, rfl⟩
              have k6 := save_any hbj.a.i
              rw [← hZ] at k6
              have K6 := Lib.hid k6
              have HB := Lib.hid hbj
              have HZ := Lib.hid hZ
              have HKH := Lib.hid hKh
              clear k6 hbj hbi e1 hN hZ hKh G5 K5 HD hid hlt hdj
              go_wp2_with fail
              refine (K6.out).mono ?_
              rintro e u6 ⟨rfl, um⟩
              have B6 := Lib.hid (HB.out.far um)
              clear um hltI
              have k7 := save_any B6.out.b.i
              rw [← HZ.out] at k7
              have K7 := Lib.hid k7
              clear k7
              go_wp2_with fail
              refine (K7.out).mono ?_
              rintro e u7 ⟨rfl, um⟩
              have b7 := B6.out.far um
              have k8 := depth_calls b7.a.i
              have k9 := depth_calls b7.b.i
              rw [HKH.out] at k8 k9
              have k10 := text_any b7.a.i
              rw [← HZ.out] at k10
              have K8 := Lib.hid k8
              have K9 := Lib.hid k9
              have K10 := Lib.hid k10
              have B7 := Lib.hid b7
              clear um k8 k9 k10 b7
              have hmk := fun W => make_zeros8 W 1001 (by omega)
              have hcv := fun W => conv_bytes W (List.replicate 1001 (0 : UInt8))
              have hGs : (str (List.replicate 1001 (0 : UInt8))).size = 1001 := by rw [str_size, List.length_replicate]
              have hrl : (List.replicate 1001 (0 : UInt8)).length = 1001 := List.length_replicate
              rw [hrl] at hcv
              obtain ⟨G, hG⟩ : ∃ G, G = str (List.replicate 1001 (0 : UInt8)) := ⟨_, rfl⟩
              obtain ⟨Zs, hZs⟩ : ∃ Zs : List Value, Zs = (List.replicate 1001 (0 : UInt8)).map fun c => Value.int .u8 (c.toNat : Int) := ⟨_, rfl⟩
              simp only [← hG, ← hZs] at hmk hcv hGs
              simp only [Int.cast_ofNat_Int] at hmk
              clear hG hZs hrl
              have hhjI : (h : Int) ≤ (j : Int) := by omega
              by_cases hb0 : 0 ≤ b
              · by_cases hbj : b ≤ (j : Int)
                · obtain rfl : b = (h : Int) := by have := HH.out; omega
                  go_wp2_with fail
                  refine (K8.out).mono ?_
                  rintro e u8 ⟨rfl, rfl⟩
                  go_wp2_with fail
                  refine (K9.out).mono ?_
                  rintro e u8 ⟨rfl, rfl⟩
                  go_wp2_with fail
                  refine (K8.out).mono ?_
                  rintro e u8 ⟨rfl, rfl⟩
                  go_wp2_with fail
                  refine (K10.out).mono ?_
                  rintro e u8 ⟨rfl, um⟩
                  have b8 := B7.out.far um
                  have k11 := text_any b8.b.i
                  rw [← HZ.out] at k11
                  have K11 := Lib.hid k11
                  have B8 := Lib.hid b8
                  clear um k11 b8
                  go_wp2_with fail
                  refine (K11.out).mono ?_
                  rintro e u9 ⟨rfl, um⟩
                  have b9 := B8.out.far um
                  have m9 := (Mod.refl [] u9).alloc (.cells Zs.toArray 5)
                  have k12 := open_long (b9.a.i.far m9) G (by omega) (by omega)
                  have HM := Lib.hid (HM1.out.trans (b9.a.m.trans m9))
                  have K12 := Lib.hid k12
                  clear um k12 b9 m9
                  go_wp2_with fail
                  refine (K12.out).mono ?_
                  rintro e u10 ⟨rfl, rfl⟩
                  go_wp2_with fail
                  go_ret
                  exact ⟨rfl, HM.out⟩
                · obtain rfl : h = j := by have := HH.out; omega
                  go_wp2_with fail
                  refine (K8.out).mono ?_
                  rintro e u8 ⟨rfl, rfl⟩
                  go_wp2_with fail
                  refine (K9.out).mono ?_
                  rintro e u8 ⟨rfl, rfl⟩
                  go_wp2_with fail
                  refine (K8.out).mono ?_
                  rintro e u8 ⟨rfl, rfl⟩
                  go_wp2_with fail
                  refine (K10.out).mono ?_
                  rintro e u8 ⟨rfl, um⟩
                  have b8 := B7.out.far um
                  have k11 := text_any b8.b.i
                  rw [← HZ.out] at k11
                  have K11 := Lib.hid k11
                  have B8 := Lib.hid b8
                  clear um k11 b8
                  go_wp2_with fail
                  refine (K11.out).mono ?_
                  rintro e u9 ⟨rfl, um⟩
                  have b9 := B8.out.far um
                  have m9 := (Mod.refl [] u9).alloc (.cells Zs.toArray 5)
                  have k12 := open_long (b9.a.i.far m9) G (by omega) (by omega)
                  have HM := Lib.hid (HM1.out.trans (b9.a.m.trans m9))
                  have K12 := Lib.hid k12
                  clear um k12 b9 m9
                  go_wp2_with fail
                  refine (K12.out).mono ?_
                  rintro e u10 ⟨rfl, rfl⟩
                  go_wp2_with fail
                  go_ret
                  exact ⟨rfl, HM.out⟩
              · obtain rfl : h = 0 := by have := HH.out; omega
                go_wp2_with fail
                refine (K8.out).mono ?_
                rintro e u8 ⟨rfl, rfl⟩
                go_wp2_with fail
                refine (K9.out).mono ?_
                rintro e u8 ⟨rfl, rfl⟩
                go_wp2_with fail
                refine (K8.out).mono ?_
                rintro e u8 ⟨rfl, rfl⟩
                go_wp2_with fail
                refine (K10.out).mono ?_
                rintro e u8 ⟨rfl, um⟩
                have b8 := B7.out.far um
                have k11 := text_any b8.b.i
                rw [← HZ.out] at k11
                have K11 := Lib.hid k11
                have B8 := Lib.hid b8
                clear um k11 b8
                go_wp2_with fail
                refine (K11.out).mono ?_
                rintro e u9 ⟨rfl, um⟩
                have b9 := B8.out.far um
                have m9 := (Mod.refl [] u9).alloc (.cells Zs.toArray 5)
                have k12 := open_long (b9.a.i.far m9) G (by omega) (by omega)
                have HM := Lib.hid (HM1.out.trans (b9.a.m.trans m9))
                have K12 := Lib.hid k12
                clear um k12 b9 m9
                go_wp2_with fail
                refine (K12.out).mono ?_
                rintro e u10 ⟨rfl, rfl⟩
                go_wp2_with fail
                go_ret
                exact ⟨rfl, HM.out⟩
end Go.Proofs.Ytmbcjphgjdffmaa
