/- Layer 8: words that are read behind a saved place are read again behind it (SourceSaves). No condition. -/
import Derived.Test.YtmbcjphgjdffmaaS8J
namespace Go.Proofs.Ytmbcjphgjdffmaa
open Go.RowKit
set_option linter.unusedVariables false

set_option maxHeartbeats 16000000 in
set_option maxRecDepth 100000 in
theorem saves_walk (w : World) (S S' : ByteArray) (a b : Int) (hs : S.size ≤ maxLen) (hs' : S'.size ≤ maxLen) (ha : (Lit.int .u8 a).wf = true) (hb : (Lit.int .u8 b).wf = true) :
    Calls Try.prog 3 #[.string S, .string S', .int .u8 a, .int .u8 b] w fun e w' => e = .returned (.bool true) ∧ Mod [] w w' := by
  obtain ⟨c, rfl⟩ := u8_of ha
  obtain ⟨d, rfl⟩ := u8_of hb
  unfold maxLen at hs hs'
  have hcl := cutS_len S
  have hc1 := cutS_short S
  have hc2 := cutS_long S
  obtain ⟨T, hT⟩ : ∃ T, T = cutS S := ⟨_, rfl⟩
  rw [← hT] at hcl hc1 hc2
  obtain ⟨X, hX⟩ : ∃ X, X = str T := ⟨_, rfl⟩
  rw [← hX] at hc1 hc2
  have HC1 := Lib.hid hc1
  have HC2 := Lib.hid hc2
  have HX := Lib.hid hX
  have hXs : X.size = T.length := by rw [hX, str_size]
  have HXS := Lib.hid hXs
  clear hT hc1 hc2 hX hXs ha hb
  have hdl := cutS_len S'
  have hd1 := cutS_short S'
  have hd2 := cutS_long S'
  obtain ⟨U, hU⟩ : ∃ U, U = cutS S' := ⟨_, rfl⟩
  rw [← hU] at hdl hd1 hd2
  obtain ⟨Y, hY⟩ : ∃ Y, Y = str U := ⟨_, rfl⟩
  rw [← hY] at hd1 hd2
  have HD1 := Lib.hid hd1
  have HD2 := Lib.hid hd2
  have HY := Lib.hid hY
  clear hU hd1 hd2 hY
  have H0 := Lib.hid (shown_calls w)
  go_enter Try.func3, Try.ntmps3
  go_wp2_with fail
  refine (H0.out).mono ?_
  rintro e w1 ⟨rfl, hm1⟩
  have HM1 := Lib.hid hm1
  clear hm1
  go_upto_region 2 with fail
  go_cut [10, 11] (fun u v wx => u = .string X ∧ v = .string Y ∧ wx = w1.drew)
  case first =>
    by_cases hc : S.size ≤ 1000
    · have hc2 : (S.size : Int) ≤ 1000 := by omega
      by_cases hd : S'.size ≤ 1000
      · have hd2 : (S'.size : Int) ≤ 1000 := by omega
        go_region
        all_goals
          go_wp2_with fail
          go_meet
          exact ⟨by rw [← HC1.out hc], by rw [← HD1.out hd], rfl⟩
      · have hd2 : ¬ (S'.size : Int) ≤ 1000 := by omega
        go_region
        all_goals
          go_wp2_with fail
          go_meet
          exact ⟨by rw [← HC1.out hc], by rw [← HD2.out], rfl⟩
    · have hc2 : ¬ (S.size : Int) ≤ 1000 := by omega
      by_cases hd : S'.size ≤ 1000
      · have hd2 : (S'.size : Int) ≤ 1000 := by omega
        go_region
        all_goals
          go_wp2_with fail
          go_meet
          exact ⟨by rw [← HC2.out], by rw [← HD1.out hd], rfl⟩
      · have hd2 : ¬ (S'.size : Int) ≤ 1000 := by omega
        go_region
        all_goals
          go_wp2_with fail
          go_meet
          exact ⟨by rw [← HC2.out], by rw [← HD2.out], rfl⟩
  case rest =>
    obtain ⟨rfl, rfl, rfl⟩ := hcut
    have H1 := Lib.hid (Mine.new w1.drew)
    have HMD := Lib.hid (show Mod [] w w1.drew from HM1.out.drew)
    generalize w1.drew = w1d at H1 HMD ⊢
    go_wp2_with fail
    refine (H1.out).mono ?_
    rintro e w2 ⟨p, rfl, h2⟩
    have k := Mine.open h2 T hcl (by simp) (by omega)
    rw [← HX.out] at k
    have H2 := Lib.hid k
    clear h2 k
    go_wp2_with fail
    refine (H2.out).mono ?_
    rintro e w3 ⟨rfl, S3, h3, _⟩
    have M3 := Lib.hid h3
    clear h3
    obtain ⟨m, hm21, hmm⟩ : ∃ m : Nat, (c.toNat : Int) % 21 = (m : Int) ∧ m < 21 := ⟨c.toNat % 21, by omega, Nat.mod_lt _ (by omega)⟩
    obtain ⟨n, hn21, hnn⟩ : ∃ n : Nat, (d.toNat : Int) % 21 = (n : Int) ∧ n < 21 := ⟨d.toNat % 21, by omega, Nat.mod_lt _ (by omega)⟩
    have HN21 := Lib.hid hn21
    have HM21 := Lib.hid hm21
    clear hm21 hn21
    go_wp2_with fail
    rw [HM21.out]
    go_loopw [43] (fun v wr => ∃ (j i : Nat) (S : List Nat), v = .int .u8 (j : Int) ∧ j ≤ m ∧ RowKit.Hid (Mine w1d wr p S [⟨T, i, 1⟩] 1)) (fun v _ => m - (intOf v).toNat)
    case atStart => exact ⟨0, 0, S3, rfl, by omega, M3⟩
    case round =>
      obtain ⟨j, i, R, rfl, hjm, hmi⟩ := hrel
      by_cases hlt : j < m
      · have hltI : (j : Int) < (m : Int) := by omega
        have K1 := Lib.hid (Mine.word (B := []) hmi.out)
        clear hmi
        go_wp2_with fail
        refine (K1.out).mono ?_
        rintro e u1 ⟨rfl, R1, g1, _⟩
        have G1 := Lib.hid g1
        clear g1
        go_wp2_with fail
        go_roundw
        case rel => exact ⟨j + 1, _, R1, by go_num, by omega, G1⟩
        case measure => simp [intOf]; omega
      · have hltI : ¬ (j : Int) < (m : Int) := by omega
        have K1 := Lib.hid (save_top (B := []) hmi.out.i)
        have hil : i ≤ T.length := by
          obtain ⟨v, hv, _⟩ := hmi.out.i
          exact (hv.ok ⟨T, i, 1⟩ (by simp)).1
        have HIL := Lib.hid hil
        have HMI := Lib.hid hmi.out
        clear hmi hil hlt hjm HM21 M3
        go_wp2_with fail
        refine (K1.out).mono ?_
        rintro e u1 ⟨rfl, um⟩
        have P0 := Lib.hid (Pile.nil (HMI.out.far um))
        clear um hltI
        go_wp2_with fail
        rw [HN21.out]
        go_loopw [15, 55] (fun rv v wr => ∃ (j : Nat) (S : List Nat), v = .int .u8 (j : Int) ∧ j ≤ n ∧ RowKit.Hid (Pile w1d wr p S [⟨T, placeW T i j, 1⟩] 1 rv (wordsW T i j))) (fun _ v _ => n - (intOf v).toNat)
        case atStart => exact ⟨0, R, rfl, by omega, P0⟩
        case round =>
          obtain ⟨k, R2, rfl, hkn, hpi⟩ := hrel
          by_cases hlt : k < n
          · have hltI : (k : Int) < (n : Int) := by omega
            have K2 := Lib.hid (hpi.out.of (word_top (B := []) hpi.out.me.i))
            have HL := Lib.hid (wordsW_len T i k)
            have HSN := Lib.hid (wordsW_snoc T i k)
            have HPL := Lib.hid (show placeW T i (k + 1) = (wordL T (placeW T i k : Int)).2 from rfl)
            obtain ⟨V, hV⟩ : ∃ V, V = str (wordL T (placeW T i k : Int)).1 := ⟨_, rfl⟩
            obtain ⟨Z, hZ⟩ : ∃ Z, Z = wordsW T i k := ⟨_, rfl⟩
            dsimp only at K2
            rw [← hV] at K2 HSN
            rw [← hZ] at K2 HL HSN
            rw [← HPL.out] at K2
            clear hpi hV hZ
            go_wp2_with fail
            refine (K2.out).mono ?_
            rintro e u2 ⟨rfl, R3, g3⟩
            have HB := Lib.hid (g3.far ((Mod.refl [] u2).alloc (.cells #[.string V] 9)))
            have HC := Lib.hid (one_str u2 V 9)
            clear g3
            go_wp2_with (refine wpList_appP rfl (.tmp 57) (.tmp 60) rfl HB.out (by have := HL.out; omega) _ 1 V HC.out rfl rfl ?_)
            intro v' w' b1
            have B1 := Lib.hid (show Pile w1d w' p R3 [⟨T, placeW T i (k + 1), 1⟩] 1 v' (wordsW T i (k + 1)) by rw [HSN.out]; exact b1)
            clear b1
            go_wp2_with fail
            go_roundw
            case rel => exact ⟨k + 1, R3, by go_num, by omega, B1⟩
            case measure => simp [intOf]; omega
          · have hltI : ¬ (k : Int) < (n : Int) := by omega
            obtain rfl : k = n := by omega
            obtain ⟨A, cap, hv, _⟩ := hpi.out.row.opened
            rw [wordsW_len] at hv
            have hple := placeW_le T i HIL.out k
            obtain ⟨q, hq⟩ : ∃ q, q = placeW T i k := ⟨_, rfl⟩
            rw [← hq] at hpi hple
            have HQ := Lib.hid hq
            have HP := Lib.hid hpi.out
            have K1 := Lib.hid (in_top (B := []) hpi.out.me.i)
            have K2 := Lib.hid (show Calls Try.prog 9 #[Pt p, .string Y] wr (Piles w1d p (.int .i64 0) [⟨T, q, 1⟩, ⟨U, 0, 2⟩] 2 _ (wordsW T i k)) by rw [HY.out]; exact hpi.out.of (open_ok hpi.out.me.i U hdl (by simp) (by omega)))
            clear hpi hlt hkn hq HN21 P0
            subst hv
            go_wp2_with fail
            refine (K1.out).mono ?_
            rintro e u2 ⟨rfl, rfl⟩
            go_wp2_with fail
            refine (K2.out).mono ?_
            rintro e u2 ⟨rfl, R3, g3⟩
            have hiI : I64 (i : Int) := by have := HIL.out; unfold I64; omega
            have HII := Lib.hid hiI
            have K3 := Lib.hid (restore_no (B := [⟨T, q, 1⟩]) g3.me.i 1 (i : Int) (fun h => by have := h.1; simp at this) hiI)
            have K4 := Lib.hid (in_top (B := [⟨T, q, 1⟩]) g3.me.i)
            have K5 := Lib.hid (g3.of (word_top (B := [⟨T, q, 1⟩]) g3.me.i))
            clear g3 hiI
            go_wp2_with fail
            refine (K3.out).mono ?_
            rintro e u3 ⟨rfl, rfl⟩
            go_wp2_with fail
            refine (K4.out).mono ?_
            rintro e u3 ⟨rfl, rfl⟩
            go_wp2_with fail
            refine (K5.out).mono ?_
            rintro e u3 ⟨rfl, R4, g4⟩
            have K6 := Lib.hid (save_top (B := [⟨T, q, 1⟩]) g4.me.i)
            have G4 := Lib.hid g4
            clear g4
            go_wp2_with fail
            refine (K6.out).mono ?_
            rintro e u4 ⟨rfl, um⟩
            have g5 := G4.out.far um
            have K7 := Lib.hid (g5.of (close_ok (B := [⟨T, q, 1⟩]) g5.me.i))
            clear g5 um
            go_wp2_with fail
            refine (K7.out).mono ?_
            rintro e u5 ⟨rfl, R6, g6⟩
            have K8 := Lib.hid (in_top (B := []) g6.me.i)
            have K9 := Lib.hid (text_top (B := []) g6.me.i)
            rw [← HX.out] at K9
            have K10 := Lib.hid (restore_no (B := []) g6.me.i 2 0 (fun h => by have := h.1; simp at this) (by unfold I64; omega))
            have K11 := Lib.hid (g6.of (restore_yes (B := []) g6.me.i i HIL.out))
            clear g6
            go_wp2_with fail
            refine (K8.out).mono ?_
            rintro e u6 ⟨rfl, rfl⟩
            go_wp2_with fail
            refine (K9.out).mono ?_
            rintro e u6 ⟨rfl, rfl⟩
            go_wp2_with fail
            refine (K10.out).mono ?_
            rintro e u6 ⟨rfl, rfl⟩
            go_wp2_with fail
            refine (K8.out).mono ?_
            rintro e u6 ⟨rfl, rfl⟩
            go_wp2_with fail
            refine (K11.out).mono ?_
            rintro e u6 ⟨rfl, R7, g7⟩
            have K12 := Lib.hid (in_top (B := []) g7.me.i)
            have G7 := Lib.hid g7
            clear g7
            go_wp2_with fail
            refine (K12.out).mono ?_
            rintro e u7 ⟨rfl, rfl⟩
            go_wp2_with fail
            have hkb : (k : Int) ≤ 21 := by omega
            have hXb : (X.size : Int) ≤ 1000 := by rw [HXS.out]; omega
            go_loopw [20, 128] (fun rv v wr => ∃ (j : Nat) (S : List Nat), v = .int .i64 (j : Int) ∧ j ≤ k ∧ RowKit.Hid (Pile w1d wr p S [⟨T, placeW T i j, 1⟩] 2 (.slice A k cap) (wordsW T i k))) (fun _ v _ => k - (intOf v).toNat)
            case atStart => exact ⟨0, R7, rfl, by omega, G7⟩
            case round =>
              obtain ⟨j, R8, rfl, hjk, hpj⟩ := hrel
              by_cases hlt : j < k
              · have hltI : (j : Int) < (k : Int) := by omega
                obtain ⟨b, hA, hc⟩ := hpj.out.cell j (by rw [wordsW_len]; exact hlt)
                rw [wordsW_get] at hc
                have L2 := Lib.hid (hpj.out.of (word_top (B := []) hpj.out.me.i))
                have HPL := Lib.hid (show placeW T i (j + 1) = (wordL T (placeW T i j : Int)).2 from rfl)
                obtain ⟨V, hV⟩ : ∃ V, V = str (wordL T (placeW T i j : Int)).1 := ⟨_, rfl⟩
                obtain ⟨Z, hZ⟩ : ∃ Z, Z = wordsW T i k := ⟨_, rfl⟩
                dsimp only at L2
                rw [← hV] at L2 hc
                rw [← HPL.out] at L2
                rw [← hZ] at L2
                have HZ := Lib.hid hZ
                subst hA
                clear hpj hV hZ
                go_wp2_with fail
                refine (L2.out).mono ?_
                rintro e u8 ⟨rfl, R9, g9⟩
                have G9 := Lib.hid g9
                clear g9
                go_wp2_with fail
                go_roundw
                case rel => exact ⟨j + 1, R9, by go_num, by omega, by rw [← HZ.out]; exact G9⟩
                case measure => simp [intOf]; omega
              · have hltI : ¬ (j : Int) < (k : Int) := by omega
                obtain rfl : j = k := by omega
                rw [← HQ.out] at hpj
                have L1 := Lib.hid (in_top (B := []) hpj.out.me.i)
                have L2 := Lib.hid (restore_no (B := []) hpj.out.me.i 1 ((X.size : Int) + 1) (fun h => by have h1 := h.2.2; rw [HXS.out] at h1; simp at h1; omega) (by unfold I64; omega))
                have L3 := Lib.hid (restore_no (B := []) hpj.out.me.i 1 (-1) (fun h => by have h1 := h.2.1; omega) (by unfold I64; omega))
                have HM := Lib.hid (HMD.out.trans hpj.out.me.m)
                clear hpj hlt hjk
                go_wp2_with fail
                refine (L1.out).mono ?_
                rintro e u8 ⟨rfl, rfl⟩
                go_wp2_with fail
                refine (L2.out).mono ?_
                rintro e u8 ⟨rfl, rfl⟩
                go_wp2_with fail
                refine (L3.out).mono ?_
                rintro e u8 ⟨rfl, rfl⟩
                go_wp2_with fail
                refine (L1.out).mono ?_
                rintro e u8 ⟨rfl, rfl⟩
                go_wp2_with fail
                go_ret
                exact ⟨rfl, HM.out⟩
end Go.Proofs.Ytmbcjphgjdffmaa
