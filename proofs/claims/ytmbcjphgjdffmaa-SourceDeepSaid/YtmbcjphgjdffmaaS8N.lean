/- Layer 8: as many sources as there may be, one within the other (SourceDeep). No condition. -/
import Derived.Test.YtmbcjphgjdffmaaS8O
namespace Go.Proofs.Ytmbcjphgjdffmaa
open Go.RowKit
set_option linter.unusedVariables false

/-- The source that is told of a text, behind its first word. -/
def oneW (U : List UInt8) (j : Nat) : Sc := { t := U, i := (wordL U ((0 : Nat) : Int)).2, n := j }
def textsS (K : List Sc) : List ByteArray := K.map fun x => str x.t
def placesS (K : List Sc) : List Nat := K.map fun x => x.i
theorem textsS_snoc (K : List Sc) (x : Sc) : textsS (K ++ [x]) = textsS K ++ [str x.t] := by simp [textsS]
theorem placesS_snoc (K : List Sc) (x : Sc) : placesS (K ++ [x]) = placesS K ++ [x.i] := by simp [placesS]
theorem take_snocD (K : List Sc) (k : Nat) (h : k < K.length) : K.take (k + 1) = K.take k ++ [K[k]] := by rw [List.take_succ_eq_append_getElem h]
set_option maxHeartbeats 16000000 in
set_option maxRecDepth 100000 in
theorem deep_walk (w : World) (A : Option Addr) (n cap : Nat) (L : List ByteArray) (hn : n = L.length) (hA : TextsIn w A L) (hcap : n ≤ cap) (hn2 : n ≤ 9223372036854775807) :
    Calls Try.prog 4 #[.slice A n cap] w fun e w' => e = .returned (.bool true) ∧ Mod [] w w' := by
  have HA := Lib.hid hA
  have HN := Lib.hid hn
  obtain ⟨m, hm⟩ : ∃ m, m = min n 8 := ⟨_, rfl⟩
  have hm8 : m ≤ 8 := by omega
  have hmn : m ≤ n := by omega
  have hup := texts_upto A n cap m (by omega)
  have HMM := Lib.hid hm
  clear hA hn hm
  have H0 := Lib.hid (shown_calls w)
  go_enter Try.func4, Try.ntmps4
  go_wp2_with fail
  refine (H0.out).mono ?_
  rintro e w1 ⟨rfl, hm1⟩
  have HM1 := Lib.hid hm1
  have H1 := Lib.hid (Mine.new w1)
  clear hm1
  go_wp2_with fail
  refine (H1.out).mono ?_
  rintro e w2 ⟨p, rfl, h2⟩
  have B2 := Lib.hid (Deep.nil h2)
  clear h2
  go_upto_region 5 with fail
  go_cut [5] (fun u wx => u = .slice A m cap ∧ w2 = wx)
  case first =>
    by_cases hc : n ≤ 8
    · have hc2 : (n : Int) ≤ 8 := by omega
      have e : m = n := by have := HMM.out; omega
      rw [e] at hup
      go_wp2_with fail
      all_goals
        go_meet
        exact ⟨by rw [e], rfl⟩
    · have hc2 : ¬ (n : Int) ≤ 8 := by omega
      have e : m = 8 := by have := HMM.out; omega
      subst e
      simp only [Int.cast_ofNat_Int] at hup
      go_wp2_with fail
      all_goals
        go_meet
        exact ⟨rfl, rfl⟩
  case rest =>
    obtain ⟨rfl, rfl⟩ := hcut
    clear hup
    have hm8I : (m : Int) ≤ 8 := by omega
    go_wp2_with fail
    go_loopw [6, 7, 9, 10, 24] (fun v u _ _ i wr => ∃ (j : Nat) (S : List Nat) (K : List Sc), i = .int .i64 (j : Int) ∧ j ≤ m ∧ K.length = j ∧ RowKit.Hid (Deep w1 wr p S K j v (textsS K) u (placesS K))) (fun _ _ _ _ i _ => m - (intOf i).toNat)
    case atStart => exact ⟨0, _, [], rfl, by omega, rfl, B2⟩
    case round =>
      obtain ⟨j, S, K, rfl, hjm, hK, hbo⟩ := hrel
      by_cases hlt : j < m
      · have hltI : (j : Int) < (m : Int) := by omega
        obtain ⟨x, hAx, hc⟩ := (HA.out.mod (HM1.out.trans hbo.out.pi.me.m)).cell j (by rw [← HN.out]; omega)
        have hXs := HA.out.size _ (List.getElem_mem (show j < L.length by rw [← HN.out]; omega))
        obtain ⟨X, hX⟩ : ∃ X, X = L[j]'(by rw [← HN.out]; omega) := ⟨_, rfl⟩
        rw [← hX] at hc hXs
        have HK := Lib.hid hK
        have hcl := cutS_len X
        have hc1 := cutS_short X
        have hc2 := cutS_long X
        obtain ⟨U, hU⟩ : ∃ U, U = cutS X := ⟨_, rfl⟩
        rw [← hU] at hcl hc1 hc2
        obtain ⟨Y, hY⟩ : ∃ Y, Y = str U := ⟨_, rfl⟩
        rw [← hY] at hc1 hc2
        have HC1 := Lib.hid hc1
        have HC2 := Lib.hid hc2
        have HY := Lib.hid hY
        subst hAx
        clear hX hK hc1 hc2 hU hY
        go_upto_region 11 with fail
        go_cut [10] (fun u wx => u = .string Y ∧ wr = wx)
        case first =>
          by_cases hc : X.size ≤ 1000
          · have hc2 : (X.size : Int) ≤ 1000 := by omega
            go_wp2_with fail
            all_goals
              go_meet
              exact ⟨by rw [← HC1.out hc], rfl⟩
          · have hc2 : ¬ (X.size : Int) ≤ 1000 := by omega
            go_wp2_with fail
            all_goals
              go_meet
              exact ⟨by rw [← HC2.out], rfl⟩
        case rest =>
          obtain ⟨rfl, rfl⟩ := hcut
          have k1 := hbo.out.of (open_ok hbo.out.pi.me.i U hcl (by have := HK.out; omega) (by omega))
          rw [← HY.out] at k1
          have K1 := Lib.hid k1
          clear k1 hbo hc
          go_wp2_with fail
          refine (K1.out).mono ?_
          rintro e u1 ⟨rfl, S1, g1⟩
          have K2 := Lib.hid (g1.of (word_top g1.pi.me.i))
          clear g1
          go_wp2_with fail
          refine (K2.out).mono ?_
          rintro e u2 ⟨rfl, S2, g2⟩
          have B1 := Lib.hid (show Deep w1 u2 p S2 (K ++ [oneW U (j + 1)]) (j + 1) _ (textsS K) _ (placesS K) from g2)
          have D1 := Lib.hid (B1.out.far ((Mod.refl [] u2).alloc (.cells #[.string Y] 9)))
          have HC := Lib.hid (one_str u2 Y 9)
          have HTL : (textsS K).length = j := by unfold textsS; rw [List.length_map]; exact HK.out
          have HPL : (placesS K).length = j := by unfold placesS; rw [List.length_map]; exact HK.out
          have HTL := Lib.hid HTL
          have HPL := Lib.hid HPL
          clear g2
          go_wp2_with (refine wpList_appD rfl (.tmp 39) (.tmp 41) rfl D1.out (by have := HTL.out; omega) _ 1 Y HC.out rfl rfl ?_)
          intro v' u3 d2
          have K3 := Lib.hid (in_top d2.pi.me.i)
          have D2 := Lib.hid d2
          clear d2
          go_wp2_with fail
          refine (K3.out).mono ?_
          rintro e u4 ⟨rfl, rfl⟩
          have D3 := Lib.hid (D2.out.far ((Mod.refl [] u3).alloc (.cells #[.int .i64 ((oneW U (j + 1)).i : Int)] 3)))
          have HC3 := Lib.hid (one_int u3 ((oneW U (j + 1)).i : Int) 3)
          go_wp2_with (refine wpList_appI rfl (.tmp 43) (.tmp 46) rfl D3.out (by have := HPL.out; omega) _ 1 (oneW U (j + 1)).i HC3.out rfl rfl ?_)
          intro v'' u5 d4
          have D4 := Lib.hid (show Deep w1 u5 p S2 (K ++ [oneW U (j + 1)]) (j + 1) v' (textsS (K ++ [oneW U (j + 1)])) v'' (placesS (K ++ [oneW U (j + 1)])) by rw [textsS_snoc, placesS_snoc]; have e : str (oneW U (j + 1)).t = Y := HY.out.symm; rw [e]; exact d4)
          clear d4
          go_wp2_with fail
          go_roundw
          case rel => exact ⟨j + 1, S2, _, by go_num, by omega, by have := HK.out; simp; omega, D4⟩
          case measure => simp [intOf]; omega
      · have hltI : ¬ (j : Int) < (m : Int) := by omega
        obtain rfl : j = m := by omega
        obtain ⟨A1, c1, hv1, _⟩ := hbo.out.pi.row.opened
        obtain ⟨A2, c2, hv2, _⟩ := hbo.out.ru.opened
        have HTL : (textsS K).length = j := by unfold textsS; rw [List.length_map]; exact hK
        have HPL : (placesS K).length = j := by unfold placesS; rw [List.length_map]; exact hK
        rw [HTL] at hv1
        rw [HPL] at hv2
        have HTL := Lib.hid HTL
        have HPL := Lib.hid HPL
        have HK := Lib.hid hK
        have HB := Lib.hid hbo.out
        clear hbo hK hlt hjm
        subst hv1 hv2
        go_upto_region 17 with fail
        go_cut [61] (fun u wx => u = .bool false ∧ wr = wx)
        case first =>
          by_cases h8 : j = 8
          · subst h8
            have K1 := Lib.hid (open_deep HB.out.pi.me.i { data := #[109, 111, 114, 101] } (by decide) (by have := HK.out; omega))
            have k2 := depth_calls HB.out.pi.me.i
            rw [HK.out] at k2
            have K2 := Lib.hid (show Calls Try.prog 16 #[Pt p] wr fun e w' => e = .returned (.int .i64 8) ∧ wr = w' from k2)
            clear k2
            go_wp2_with fail
            refine (K1.out).mono ?_
            rintro e u1 ⟨rfl, rfl⟩
            go_wp2_with fail
            refine (K2.out).mono ?_
            rintro e u1 ⟨rfl, rfl⟩
            go_wp2_with fail
            go_meet
            exact ⟨rfl, rfl⟩
          · have h8I : ¬ (j : Int) = 8 := by omega
            have h8b : ((j : Int) == 8) = false := by rw [beq_eq_false_iff_ne]; exact h8I
            go_wp2_with fail
            go_meet
            exact ⟨rfl, rfl⟩
        case rest =>
          obtain ⟨rfl, rfl⟩ := hcut
          go_wp2_with fail
          go_loopw [11] (fun v wq => ∃ (k : Nat) (z : Int) (S : List Nat), v = .int .i64 z ∧ z + 1 = (k : Int) ∧ k ≤ j ∧ RowKit.Hid (Deep w1 wq p S (K.take k) j (.slice A1 j c1) (textsS K) (.slice A2 j c2) (placesS K))) (fun v _ => (intOf v + 1).toNat)
          case atStart => exact ⟨j, _, S, rfl, by omega, by omega, Lib.hid (by rw [List.take_of_length_le (by have := HK.out; omega)]; exact HB.out)⟩
          case round =>
            obtain ⟨k, z, S6, rfl, hz, hkj, hbi⟩ := hrel
            by_cases hk0 : k = 0
            · subst hk0
              obtain rfl : z = -1 := by omega
              have hin := hbi.out.pi.me.i
              rw [List.take_zero] at hin
              have HM := Lib.hid (HM1.out.trans hbi.out.pi.me.m)
              have K1 := Lib.hid (close_none (Nothing.of hin))
              have K2 := Lib.hid (show Calls Try.prog 16 #[Pt p] wr fun e w' => e = .returned (.int .i64 0) ∧ wr = w' from depth_calls hin)
              have K3 := Lib.hid (show Calls Try.prog 15 #[Pt p] wr (Tells (.string { data := #[] }) wr) from text_bare (Nothing.of hin))
              have HI := Lib.hid hin
              have hq : (({ data := #[] } : ByteArray).toList) = [] := str_toList []
              clear hin hbi hz hkj HB
              go_wp2_with fail
              refine (K1.out).mono ?_
              rintro e u1 ⟨rfl, rfl⟩
              go_wp2_with fail
              refine (K2.out).mono ?_
              rintro e u1 ⟨rfl, rfl⟩
              go_wp2_with fail
              refine (K3.out).mono ?_
              rintro e u1 ⟨rfl, m1⟩
              have M1 := Lib.hid m1
              have K4 := Lib.hid (in_bare (Nothing.of (HI.out.far m1)))
              clear m1
              go_wp2_with fail
              refine (K4.out).mono ?_
              rintro e u2 ⟨rfl, m2⟩
              have M2 := Lib.hid (M1.out.trans m2)
              clear m2
              have K5 := Lib.hid (show Calls Try.prog 10 #[Pt p] u2 (Tells (.string { data := #[] }) u2) from word_bare (Nothing.of (HI.out.far M2.out)))
              go_wp2_with fail
              refine (K5.out).mono ?_
              rintro e u3 ⟨rfl, m3⟩
              have M3 := Lib.hid (M2.out.trans m3)
              clear m3
              have K6 := Lib.hid (open_none { data := #[] } u3)
              have K7 := Lib.hid (close_none (Nothing.nil u3))
              have K8 := Lib.hid (show Calls Try.prog 10 #[.pointer none] u3 (Tells (.string { data := #[] }) u3) from word_bare (Nothing.nil u3))
              go_wp2_with fail
              refine (K6.out).mono ?_
              rintro e u4 ⟨rfl, rfl⟩
              go_wp2_with fail
              refine (K7.out).mono ?_
              rintro e u4 ⟨rfl, rfl⟩
              go_wp2_with fail
              refine (K8.out).mono ?_
              rintro e u4 ⟨rfl, m4⟩
              have M4 := Lib.hid (M3.out.trans m4)
              clear m4
              have K9 := Lib.hid (depth_none u4)
              have K10 := Lib.hid (restore_bare (Nothing.nil u4) 0 0)
              go_wp2_with fail
              refine (K9.out).mono ?_
              rintro e u5 ⟨rfl, rfl⟩
              go_wp2_with fail
              refine (K10.out).mono ?_
              rintro e u5 ⟨rfl, m5⟩
              have M5 := Lib.hid (M4.out.trans m5)
              clear m5
              go_wp2_with fail
              go_ret
              exact ⟨rfl, HM.out.trans M5.out⟩
            · obtain ⟨i, rfl⟩ : ∃ i, k = i + 1 := ⟨k - 1, by omega⟩
              obtain rfl : z = (i : Int) := by omega
              have hij : i < K.length := by have := HK.out; omega
              have hti : i < (textsS K).length := by rw [HTL.out]; exact hkj
              have hpi : i < (placesS K).length := by rw [HPL.out]; exact hkj
              have e1 := take_snocD K i hij
              have hbj := hbi.out.far ((Mod.refl [] wr).drew)
              have hl1 : ((K.take (i + 1)).length : Int) = (i : Int) + 1 := by rw [List.length_take]; have := HK.out; omega
              have kD := depth_calls hbj.pi.me.i
              rw [hl1] at kD
              obtain ⟨b1, hb1, hx1⟩ := hbj.pi.cell i hti
              obtain ⟨b2, hb2, hx2⟩ := hbj.cellI i hpi
              have et : (textsS K)[i]'hti = str K[i].t := by simp [textsS]
              have ep : (placesS K)[i]'hpi = K[i].i := by simp [placesS]
              rw [et] at hx1
              rw [ep] at hx2
              rw [e1] at hbj
              have kT := text_top hbj.pi.me.i
              have kI := in_top hbj.pi.me.i
              have kC := hbj.of (close_ok hbj.pi.me.i)
              obtain ⟨V, hV⟩ : ∃ V, V = str K[i].t := ⟨_, rfl⟩
              obtain ⟨Z, hZ⟩ : ∃ Z : Int, Z = (K[i].i : Int) := ⟨_, rfl⟩
              rw [← hV] at hx1 kT et
              rw [← hZ] at hx2 kI
              have HET := Lib.hid et
              have HEP := Lib.hid (show (((placesS K)[i]'hpi : Nat) : Int) = Z by rw [ep, hZ])
              have hib : (i : Int) ≤ 8 := by omega
              have hijI : (i : Int) < (j : Int) := by omega
              subst hb1 hb2
              have KD := Lib.hid kD
              have KT := Lib.hid kT
              have KI := Lib.hid kI
              have KC := Lib.hid kC
              clear hz hbi hbj e1 hl1 et ep kD kT kI kC hV hZ hk0 HB
              go_upto_region 22 with fail
              have hwi : IntKind.i64.wrap ((i : Int) + 1) = (i : Int) + 1 := IntWalk.i64_in _ (by omega)
              go_region_held3 (fun Y => Y.cell? ⟨b1, i, none⟩ = some (.string V) ∧ Y.cell? ⟨b2, i, none⟩ = some (.int .i64 Z)) (first | exact ⟨hx1, hx2⟩ | exact ⟨hy1, hy2⟩ | fail) (first
                | ((with_reducible refine (KD.out).mono ?_); rintro e u1 ⟨rfl, rfl⟩)
                | ((with_reducible refine (KT.out).mono ?_); rintro e u1 ⟨rfl, rfl⟩)
                | ((with_reducible refine (KI.out).mono ?_); rintro e u1 ⟨rfl, rfl⟩)
                | ((with_reducible refine (KC.out).mono ?_); rintro e u1 ⟨rfl, S7, g7⟩; obtain ⟨b1', he1, hy1⟩ := g7.pi.cell i hti; obtain ⟨b2', he2, hy2⟩ := g7.cellI i hpi; cases he1; cases he2; rw [HET.out] at hy1; rw [HEP.out] at hy2)
                | fail)
              have G7 := Lib.hid g7
              clear g7
              go_wp2_with fail
              go_roundw
              case rel => exact ⟨i, (i : Int) - 1, S7, by go_num, by omega, by omega, G7⟩
              case measure => simp [intOf]
end Go.Proofs.Ytmbcjphgjdffmaa
