/- Layer 9: the walk of DictBack. No condition. -/
import Derived.Test.YtldnpppbnakcoaaDK1
namespace Go.Proofs.Ytldnpppbnakcoaa
open Go.RowKit
set_option linter.unusedVariables false

set_option maxHeartbeats 16000000 in
set_option maxRecDepth 100000 in
theorem back_walk (w : World) (A0 : Option Addr) (n0 cap0 : Nat) (L0 : List ByteArray) (hn0 : n0 = L0.length) (hA0 : TxIn w A0 L0) (hc0 : n0 ≤ cap0) (hm0 : n0 ≤ 9223372036854775807) (A1 : Option Addr) (n1 cap1 : Nat) (L1 : List ByteArray) (hn1 : n1 = L1.length) (hA1 : TxIn w A1 L1) (hc1 : n1 ≤ cap1) (hm1 : n1 ≤ 9223372036854775807) (b : Int) (hb : (Lit.int .u8 b).wf = true) :
    Calls Try.prog 6 #[.slice A0 n0 cap0, .slice A1 n1 cap1, .int .u8 b] w fun e w' => e = .returned (.bool true) ∧ Mod [] w w' := by
  obtain ⟨m0, hmm0⟩ : ∃ m, m = min n0 20 := ⟨_, rfl⟩
  have hmin0 : min (n0 : Int) 20 = (m0 : Int) := by omega
  have HUP0 := Lib.hid (fun W => texts_upto A0 n0 cap0 m0 (by omega) W)
  obtain ⟨m1, hmm1⟩ : ∃ m, m = min n1 20 := ⟨_, rfl⟩
  have hmin1 : min (n1 : Int) 20 = (m1 : Int) := by omega
  have HUP1 := Lib.hid (fun W => texts_upto A1 n1 cap1 m1 (by omega) W)
  have HL := Lib.hid (show m0 ≤ L0.length ∧ m1 ≤ L1.length ∧ TxIn w A0 L0 ∧ TxIn w A1 L1 from ⟨by omega, by omega, hA0, hA1⟩)
  have hm020 : m0 ≤ 20 := by omega
  have hm120 : m1 ≤ 20 := by omega
  have hb2 := bounds_u8 hb
  obtain ⟨bn, rfl⟩ : ∃ bn : Nat, b = (bn : Int) := ⟨b.toNat, by omega⟩
  have hbn : bn < 256 := by omega
  obtain ⟨lm, hlm⟩ : ∃ lm, lm = bn % 10 := ⟨_, rfl⟩
  have hlmI : (bn : Int) % 10 = (lm : Int) := by omega
  have hlm10 : lm < 10 := by omega
  clear hn0 hA0 hc0 hmm0 hn1 hA1 hc1 hmm1 hb hb2 hlm
  have H0 := Lib.hid (shown_calls w)
  go_enter Try.func6, Try.ntmps6
  go_wp2_with fail
  refine (H0.out).mono ?_
  rintro e w1 ⟨rfl, hx⟩
  have HM1 := Lib.hid hx
  have H1 := Lib.hid (Pq.new2 w1)
  clear hx
  go_wp2_with fail
  refine (H1.out).mono ?_
  rintro e w2 ⟨p, rfl, h2, _⟩
  have H2 := Lib.hid (Pq.new3 h2)
  clear h2 H1
  go_wp2_with fail
  refine (H2.out).mono ?_
  rintro e w3 ⟨q, rfl, h3⟩
  have B3 := Lib.hid h3
  have hup := HUP0.out w3
  clear h3 H2 H0
  go_wp2_with fail
  clear hup
  go_loopw [40] (fun z wr => ∃ (j : Nat) (W : List We), z = .int .i64 (j : Int) ∧ j ≤ m0 ∧ W.length ≤ j ∧ RowKit.Hid (Pq w1 wr p q [] (one W) (one W) ∧ ∀ a ∈ W, a.l = 1)) (fun z _ => m0 - (intOf z).toNat)
  case atStart => exact ⟨0, [], rfl, by omega, by simp, Lib.hid ⟨B3.out, by simp⟩⟩
  case round =>
    obtain ⟨j, W, rfl, hjm, hWj, hi⟩ := hrel
    by_cases hlt : j < m0
    · have hltI : (j : Int) < (m0 : Int) := by omega
      have hjL : j < L0.length := by have := HL.out.1; omega
      obtain ⟨x0, hAx, hc⟩ := (HL.out.2.2.1.mod (HM1.out.trans hi.out.1.m)).cell j hjL
      have hsz := HL.out.2.2.1.size _ (List.getElem_mem hjL)
      obtain ⟨S, hS⟩ : ∃ S, S = L0[j] := ⟨_, rfl⟩
      rw [← hS] at hc hsz
      obtain ⟨qn, hq⟩ : ∃ qn, qn = min S.size 40 := ⟨_, rfl⟩
      have hmin3 : min (S.size : Int) 40 = (qn : Int) := by omega
      have hqS : qn ≤ S.size := by omega
      obtain ⟨Y, hY⟩ : ∃ Y, S.extract 0 qn = Y := ⟨_, rfl⟩
      have hYc : Y = str (cutN 40 S) := by
        rw [← hY, ← cutN_min 40 S]
        congr 1
        show qn = (min (S.size : Int) 40).toNat
        omega
      have hcl := cutN_len 40 S
      have k1 := hi.out.1.ofP fun T g => padd_calls g (cutN 40 S) (j : Int) (by omega)
      rw [← hYc, addR_one] at k1
      have hl1 := addW_len W (cutN 40 S) (j : Int)
      have hl2 := addW_l hi.out.2 (cutN 40 S) (j : Int)
      obtain ⟨r, hr⟩ : ∃ r, r = (addR (one W) (cutN 40 S) (j : Int)).1 := ⟨_, rfl⟩
      obtain ⟨V, hV⟩ : ∃ V, V = addW W (cutN 40 S) (j : Int) := ⟨_, rfl⟩
      rw [← hr, ← hV] at k1
      rw [← hV] at hl1 hl2
      have K1 := Lib.hid k1
      have HV := Lib.hid (And.intro hr (And.intro hV (And.intro hl2 (And.intro hYc hcl))))
      subst hAx
      clear hi hS hq hYc hcl k1 hr hV hl2
      go_wp2_with fail
      refine (K1.out).mono ?_
      rintro e w4 ⟨rfl, h4, _⟩
      have k2 := h4.ofQ fun T g => padd_calls g (cutN 40 S) (j : Int) (by have := HV.out.2.2.2.2; omega)
      rw [← HV.out.2.2.2.1, addR_one, ← HV.out.1, ← HV.out.2.1] at k2
      have K2 := Lib.hid k2
      clear h4 k2 K1
      go_wp2_with fail
      refine (K2.out).mono ?_
      rintro e w5 ⟨rfl, h5, _⟩
      have H5 := Lib.hid (And.intro h5 HV.out.2.2.1)
      clear h5 K2
      go_wp2_with fail
      go_roundw
      case rel => exact ⟨j + 1, V, by go_num, by omega, by omega, H5⟩
      case measure => simp [intOf]; omega
    · have hltI : ¬ (j : Int) < (m0 : Int) := by omega
      have hW20 : W.length ≤ 20 := by omega
      have HWl := Lib.hid hi.out.2
      have K1 := Lib.hid (show Calls Try.prog 17 #[PtD p] wr (fun e w' => e = .returned (.agg #[.int .i64 (W.length : Int), .int .i64 1]) ∧ Pq w1 w' p q [] (one W) (one W) ∧ Mod [] wr w') from hi.out.1.tellP fun T g => pmark_calls g)
      clear hi
      go_wp2_with fail
      refine (K1.out).mono ?_
      rintro e w4 ⟨rfl, h4, _⟩
      obtain ⟨k0, k1⟩ := mark_new w4 (W.length : Int) 1
      have hm5 : Mod [] w4 (w4.alloc (.cells #[.int .i64 (W.length : Int), .int .i64 1] 31)) := (Mod.refl [] w4).alloc _
      have HB := Lib.hid (show Bk9 w1 (w4.alloc (.cells #[.int .i64 (W.length : Int), .int .i64 1] 31)) p q w4.heap.size (W.length : Int) (grD W [] 1 [] 1) (one W) from ⟨by rw [grD_one]; exact Many.more h4 hm5 (by simp), k0, k1⟩)
      clear h4 k0 k1 hm5 K1
      go_upto_region 12 with fail
      obtain ⟨bm, hbm⟩ : ∃ bm, bm = w4.heap.size := ⟨_, rfl⟩
      rw [← hbm] at HB ⊢
      generalize w4.alloc (.cells #[.int .i64 (W.length : Int), .int .i64 1] 31) = w5 at HB ⊢
      clear hbm
      go_wp2_with fail
      rw [hlmI]
      go_loopw [66] (fun z wr => ∃ (j k : Nat) (R : List Int) (c : Int), z = .int .u8 (j : Int) ∧ j ≤ lm ∧ RowKit.Hid (Bk9 w1 wr p q bm (W.length : Int) (grD W [] k R c) (one W) ∧ Grown9 W [] k R c)) (fun z _ => lm - (intOf z).toNat)
      case atStart => exact ⟨0, 1, [], 1, rfl, by omega, Lib.hid ⟨HB.out, Grown9.start HWl.out⟩⟩
      case round =>
        obtain ⟨j, k, R, c, rfl, hjm, hi⟩ := hrel
        by_cases hlt : j < lm
        · have hltI : (j : Int) < (lm : Int) := by omega
          by_cases hk8 : k < 8
          · have K1 := Lib.hid (hi.out.1.list_yes hk8)
            have HG := Lib.hid hi.out.2
            obtain ⟨k', hk'⟩ : ∃ k', k' = k + 1 := ⟨_, rfl⟩
            rw [← hk'] at K1
            have HK := Lib.hid hk'
            clear hi hk'
            go_wp2_with fail
            refine (K1.out).mono ?_
            rintro e w6 ⟨rfl, h6⟩
            have K2 := Lib.hid (h6.setcur_yes (k' : Int) (by unfold Di.known; have := HK.out; simp; omega))
            clear h6 K1
            go_wp2_with fail
            refine (K2.out).mono ?_
            rintro e w7 ⟨rfl, h7⟩
            have hRl := HG.out.rl
            obtain ⟨n, hn⟩ : ∃ n, n = (1 :: R).length := ⟨_, rfl⟩
            have hn8 : 1 ≤ n ∧ n ≤ 8 := by simp at hn; omega
            have k3 := h7.order (1 :: R) rfl
            rw [← hn] at k3
            have K3 := Lib.hid k3
            have HN := Lib.hid hn
            have hn8I : (n : Int) ≤ 8 := by omega
            have hw7 := h7.pq.m.size
            obtain ⟨qn, hq⟩ : ∃ qn, qn = min n 7 := ⟨_, rfl⟩
            have hmin3 : min (n : Int) 7 = (qn : Int) := by omega
            have hqn : qn ≤ n := by omega
            have HQ := Lib.hid hq
            have H7 := Lib.hid h7
            clear h7 k3 K2 hn hq
            go_wp2_with fail
            refine (K3.out).mono ?_
            rintro e w8 ⟨A8, c8, rfl, i8, _, _, h8, m8⟩
            have k4 := h8.order (1 :: R) rfl
            rw [← HN.out] at k4
            have K4 := Lib.hid k4
            obtain ⟨i8', hle⟩ := i8.upto qn hqn hn8.1
            have I8 := Lib.hid (And.intro i8' m8)
            have hup := fun W => ints_upto A8 n c8 qn hle W
            clear h8 k4 K3 i8 i8' m8
            go_wp2_with fail
            refine (K4.out).mono ?_
            rintro e w9 ⟨A9, c9, rfl, _, _, _, h9, m9⟩
            have m79 := (I8.out.2.trans m9).alloc (.cells #[.int .i64 (k' : Int)] 3)
            have i9 := (I8.out.1.far m9).far ((Mod.refl [] w9).alloc (.cells #[.int .i64 (k' : Int)] 3))
            have HA := Lib.hid (And.intro i9 (And.intro m79.size (one_int w9 (k' : Int))))
            have M79 := Lib.hid m79
            have hXl := Lib.hid (show ((1 :: R).take qn).length ≤ 1000000000 by rw [List.length_take]; omega)
            clear h9 m9 m79 i9 K4
            go_wp2_with (refine wpList_appI rfl (.tmp 85) (.tmp 87) rfl HA.out.1 HA.out.2.1 hXl.out _ 1 (k' : Int) HA.out.2.2 rfl rfl ?_)
            intro v' w10 b1 b2 b3
            have mm : Mod [] w7 w10 := M79.out.then (Mod.of_grown (S := (Value.slice A8 qn c8).ownBlock.toList) b2 (by simp)) fun x hx => Or.inr (HA.out.1.own x (by simpa using hx)).1
            have h10 := H7.out.far mm
            have hY7 : (1 :: R).take qn ++ [(k' : Int)] = 1 :: (R.take 6 ++ [(k' : Int)]) := by
              have : (1 :: R).take qn = (1 :: R).take 7 := by
                rw [HQ.out, HN.out]
                by_cases hh : (1 :: R).length ≤ 7
                · rw [Nat.min_eq_left hh, List.take_of_length_le (Nat.le_refl _), List.take_of_length_le hh]
                · rw [Nat.min_eq_right (by omega)]
              rw [this]
              rfl
            obtain ⟨A10, c10, rfl, i10, hnil, _⟩ := b1.opened
            rw [hY7] at i10
            have hg2 : Grown9 W [] k' (R.take 6 ++ [(k' : Int)]) (k' : Int) := by
              have hk9 := HK.out
              subst hk9
              exact HG.out.list hk8
            obtain ⟨n10, hn10⟩ : ∃ n10, n10 = ((1 :: R).take qn ++ [(k' : Int)]).length := ⟨_, rfl⟩
            have k5 := h10.setord_yes (n := n10) (cap := c10) i10 (by rw [hn10, hY7]) hnil (by rw [hn10, hY7]; have := hg2.rl; simp at this ⊢; omega) (hg2.knows (k' : Int) (1 :: R))
            have K5 := Lib.hid k5
            have HG2 := Lib.hid hg2
            rw [← hn10]
            clear b1 b2 b3 mm h10 hY7 i10 hnil hg2 k5 HA hup
            clear hn10
            go_wp2_with fail
            refine (K5.out).mono ?_
            rintro e w11 ⟨rfl, h11⟩
            have H11 := Lib.hid (show Bk9 w1 w11 p q bm (W.length : Int) (grD W [] k' (R.take 6 ++ [(k' : Int)]) (k' : Int)) (one W) ∧ Grown9 W [] k' (R.take 6 ++ [(k' : Int)]) (k' : Int) from ⟨h11, HG2.out⟩)
            clear h11 K5
            go_wp2_with fail
            go_roundw
            case rel => exact ⟨j + 1, k', _, _, by go_num, by omega, H11⟩
            case measure => simp [intOf]; omega
          · have K1 := Lib.hid (hi.out.1.list_no hk8)
            have HG := Lib.hid hi.out.2
            clear hi
            go_wp2_with fail
            refine (K1.out).mono ?_
            rintro e w6 ⟨rfl, h6⟩
            have H6 := Lib.hid (And.intro h6 HG.out)
            clear h6
            go_wp2_with fail
            go_roundw
            case rel => exact ⟨j + 1, k, R, c, by go_num, by omega, H6⟩
            case measure => simp [intOf]; omega
        · have hltI : ¬ (j : Int) < (lm : Int) := by omega
          have HB6 := Lib.hid hi.out.1
          have HG := Lib.hid hi.out.2
          have hup := HUP1.out wr
          clear hi
          go_wp2_with fail
          clear hup
          go_loopw [97] (fun z wx => ∃ (i : Nat) (V : List We), z = .int .i64 (i : Int) ∧ i ≤ m1 ∧ RowKit.Hid (Bk9 w1 wx p q bm (W.length : Int) (grD W V k R c) (one W))) (fun z _ => m1 - (intOf z).toNat)
          case atStart => exact ⟨0, [], rfl, by omega, HB6⟩
          case round =>
            obtain ⟨i, V, rfl, him, hi⟩ := hrel
            by_cases hlt2 : i < m1
            · have hltI2 : (i : Int) < (m1 : Int) := by omega
              have hjL : i < L1.length := by have := HL.out.2.1; omega
              obtain ⟨x0, hAx, hc⟩ := (HL.out.2.2.2.mod (HM1.out.trans hi.out.pq.m)).cell i hjL
              have hsz := HL.out.2.2.2.size _ (List.getElem_mem hjL)
              obtain ⟨S, hS⟩ : ∃ S, S = L1[i] := ⟨_, rfl⟩
              rw [← hS] at hc hsz
              obtain ⟨qn, hq⟩ : ∃ qn, qn = min S.size 40 := ⟨_, rfl⟩
              have hmin3 : min (S.size : Int) 40 = (qn : Int) := by omega
              have hqS : qn ≤ S.size := by omega
              obtain ⟨Y, hY⟩ : ∃ Y, S.extract 0 qn = Y := ⟨_, rfl⟩
              have hYc : Y = str (cutN 40 S) := by
                rw [← hY, ← cutN_min 40 S]
                congr 1
                show qn = (min (S.size : Int) 40).toNat
                omega
              have hcl := cutN_len 40 S
              have k1 := hi.out.ofP fun T g => padd_calls g (cutN 40 S) (100 + (i : Int)) (by omega)
              obtain ⟨V', hV', _⟩ := addR_gr W V k R c (cutN 40 S) (100 + (i : Int))
              rw [← hYc, hV'] at k1
              obtain ⟨r, hr⟩ : ∃ r, r = (addR (grD W V k R c) (cutN 40 S) (100 + (i : Int))).1 := ⟨_, rfl⟩
              rw [← hr] at k1
              have K1 := Lib.hid k1
              subst hAx
              clear hi hS hq hYc hcl k1 hr hV'
              go_wp2_with fail
              refine (K1.out).mono ?_
              rintro e w4 ⟨rfl, h4⟩
              have H4 := Lib.hid h4
              clear h4 K1
              go_wp2_with fail
              go_roundw
              case rel => exact ⟨i + 1, V', by go_num, by omega, H4⟩
              case measure => simp [intOf]; omega
            · have hltI2 : ¬ (i : Int) < (m1 : Int) := by omega
              have d0 := hi.out.far (Mod.refl [] wr).drew
              have c0 := d0.c0
              have c1 := d0.c1
              have k1 := d0.ofP fun T g => pback_calls g (W.length : Int) 1
              rw [show backR (grD W V k R c) (W.length : Int) 1 = (0, one W) from HG.out.any.back] at k1
              have K1 := Lib.hid k1
              obtain ⟨X, hX⟩ : ∃ X, X = namesW W 1 := ⟨_, rfl⟩
              obtain ⟨nx, hnx⟩ : ∃ nx, nx = X.length := ⟨_, rfl⟩
              have hnx20 : nx ≤ 1000000000 := by rw [hnx, hX]; have := namesW_len W 1; omega
              have HX := Lib.hid (And.intro hX hnx)
              clear hi d0 k1 hX hnx
              go_upto_region 24 with fail
              go_cut [147] (fun u wy => u = .bool false ∧ RowKit.Hid (Bk9 w1 wy p q bm (W.length : Int) (one W) (one W)))
              case first =>
                go_region_with (first
                  | (go_at_call 25; (with_reducible refine (K1.out).mono ?_); rintro e y1 ⟨rfl, h1⟩; have g0 := h1.c0; have g1 := h1.c1; have K2 := Lib.hid (show Calls Try.prog 17 #[PtD p] y1 (fun e w' => e = .returned (.agg #[.int .i64 (W.length : Int), .int .i64 1]) ∧ Bk9 w1 w' p q bm (W.length : Int) (one W) (one W) ∧ Mod [] y1 w') from h1.tellP fun T g => pmark_calls g); clear h1 K1)
                  | (go_at_call 17; (with_reducible refine (K2.out).mono ?_); rintro e y2 ⟨rfl, h2, m2⟩; have f0 := h2.c0; have f1 := h2.c1; have K3 := Lib.hid (show Calls Try.prog 14 #[PtD p] y2 (fun e w' => e = .returned (.int .i64 1) ∧ Bk9 w1 w' p q bm (W.length : Int) (one W) (one W) ∧ Mod [] y2 w') from h2.tellP fun T g => pcurrent_calls g); clear h2 m2 K2)
                  | (go_at_call 14; (with_reducible refine (K3.out).mono ?_); rintro e y3 ⟨rfl, h3, m3⟩; have K4 := Lib.hid h3.order1; have K4b := Lib.hid (h3.far ((Mod.refl [] y3).alloc (.cells #[.int .i64 1] 3))).order1; clear h3 m3 K3)
                  | (go_at_call 16; (with_reducible refine (K4.out).mono ?_); rintro e y4 ⟨A4, c4, rfl, i4, h4, m4⟩; have S5 := Lib.hid (h4.far ((Mod.refl [] y4).alloc (.cells #[.int .i64 1] 3))); have K5 := Lib.hid (fun c d => ints_one (c := c) (d := d) (i4.far ((Mod.refl [] y4).alloc (.cells #[.int .i64 1] 3))) (ints_lit y4 1)); clear h4 m4 i4 K4 K4b)
                  | (go_at_call 16; (with_reducible refine (K4b.out).mono ?_); rintro e y4 ⟨A4, c4, rfl, i4, h4, m4⟩; have S5 := Lib.hid h4; have K5 := Lib.hid (fun c d => ints_one (c := c) (d := d) i4 ((ints_lit y3 1).far m4)); clear h4 m4 i4 K4 K4b)
                  | (go_at_call 15; (with_reducible refine (K5.out _ _).mono ?_); rintro e y5 ⟨rfl, m5⟩; have h5 := S5.out.far m5; have K6 := Lib.hid (h5.names1P HX.out.1 HX.out.2); clear h5 m5 S5 K5)
                  | (go_at_call 20; (with_reducible refine (K6.out).mono ?_); rintro e y6 ⟨A6, c6, rfl, t6, h6, m6⟩; have K7 := Lib.hid (h6.names1Q HX.out.1 HX.out.2); have T6 := Lib.hid t6; clear h6 m6 t6 K6)
                  | (go_at_call 20; (with_reducible refine (K7.out).mono ?_); rintro e y7 ⟨A7, c7, rfl, t7, h7, m7⟩; have K8 := Lib.hid (texts_same (c := c6) (d := c7) (T6.out.far m7) t7 HX.out.2 HX.out.2 hnx20); have H7 := Lib.hid h7; clear h7 m7 t7 K7)
                  | (go_at_call 19; (with_reducible refine (K8.out).mono ?_); rintro e y8 ⟨rfl, m8⟩; have K9 := Lib.hid ((H7.out.far m8).names2 HWl.out); clear m8 K8 H7)
                  | (go_at_call 20; (with_reducible refine (K9.out).mono ?_); rintro e y9 ⟨A9, c9, rfl, h9⟩; have H9 := Lib.hid h9; clear h9 K9)
                  | fail)
                all_goals
                  go_wp2_with fail
                  go_meet
                  exact ⟨by simp, H9⟩
              case rest =>
                obtain ⟨rfl, hb⟩ := hcut
                have hup := HUP0.out
                have HB7 := Lib.hid hb.out
                clear hb
                go_wp2_with fail
                clear hup
                go_loopw [154] (fun z wx => ∃ (i : Nat), z = .int .i64 (i : Int) ∧ i ≤ m0 ∧ RowKit.Hid (Bk9 w1 wx p q bm (W.length : Int) (one W) (one W))) (fun z _ => m0 - (intOf z).toNat)
                case atStart => exact ⟨0, rfl, by omega, HB7⟩
                case round =>
                  obtain ⟨i, rfl, him, hi⟩ := hrel
                  by_cases hlt3 : i < m0
                  · have hltI3 : (i : Int) < (m0 : Int) := by omega
                    have hjL : i < L0.length := by have := HL.out.1; omega
                    obtain ⟨x0, hAx, hc⟩ := (HL.out.2.2.1.mod (HM1.out.trans hi.out.pq.m)).cell i hjL
                    have hsz := HL.out.2.2.1.size _ (List.getElem_mem hjL)
                    obtain ⟨S, hS⟩ : ∃ S, S = L0[i] := ⟨_, rfl⟩
                    rw [← hS] at hc hsz
                    obtain ⟨qn, hq⟩ : ∃ qn, qn = min S.size 40 := ⟨_, rfl⟩
                    have hmin3 : min (S.size : Int) 40 = (qn : Int) := by omega
                    have hqS : qn ≤ S.size := by omega
                    obtain ⟨Y, hY⟩ : ∃ Y, S.extract 0 qn = Y := ⟨_, rfl⟩
                    have hYc : Y = str (cutN 40 S) := by
                      rw [← hY, ← cutN_min 40 S]
                      congr 1
                      show qn = (min (S.size : Int) 40).toNat
                      omega
                    have hcl := cutN_len 40 S
                    obtain ⟨N, nx, nb, nis, hres⟩ := resE_is (findW W [1] (cutN 40 S))
                    have K1 := Lib.hid (show Calls Try.prog 23 #[PtD p, .string Y] wr (fun e w' => e = .returned (.tuple #[.agg #[.string N, .int .i64 nx, .bool nb], .bool nis]) ∧ Bk9 w1 w' p q bm (W.length : Int) (one W) (one W) ∧ Mod [] wr w') from by rw [hYc, ← hres]; exact hi.out.tellP fun T g => pfind_calls g (cutN 40 S) (by omega))
                    have HV := Lib.hid (And.intro hres (And.intro hYc hcl))
                    subst hAx
                    clear hi hS hq hYc hcl hres
                    go_wp2_with fail
                    refine (K1.out).mono ?_
                    rintro e w4 ⟨rfl, h4, m4⟩
                    obtain ⟨n0, n1, n2⟩ := ent_new w4 N nx nb
                    have h5 := h4.far ((Mod.refl [] w4).alloc (.cells #[.string N, .int .i64 nx, .bool nb] 49))
                    have K2 := Lib.hid (show Calls Try.prog 23 #[PtD q, .string Y] (w4.alloc (.cells #[.string N, .int .i64 nx, .bool nb] 49)) (fun e w' => e = .returned (.tuple #[.agg #[.string N, .int .i64 nx, .bool nb], .bool nis]) ∧ Bk9 w1 w' p q bm (W.length : Int) (one W) (one W) ∧ Mod [] (w4.alloc (.cells #[.string N, .int .i64 nx, .bool nb] 49)) w') from by rw [HV.out.2.1, ← HV.out.1]; exact h5.tellQ fun T g => pfind_calls g (cutN 40 S) (by have := HV.out.2.2; omega))
                    clear h4 m4 h5 K1
                    go_wp2_with fail
                    refine (K2.out).mono ?_
                    rintro e w6 ⟨rfl, h6, m6⟩
                    have a0 := (m6.alloc (.cells #[.string N, .int .i64 nx, .bool nb] 49)).cell (by simp) n0
                    have a1 := (m6.alloc (.cells #[.string N, .int .i64 nx, .bool nb] 49)).cell (by simp) n1
                    have a2 := (m6.alloc (.cells #[.string N, .int .i64 nx, .bool nb] 49)).cell (by simp) n2
                    obtain ⟨e0, e1, e2⟩ := ent_new w6 N nx nb
                    have H7 := Lib.hid (h6.far ((Mod.refl [] w6).alloc (.cells #[.string N, .int .i64 nx, .bool nb] 49)))
                    clear h6 m6 K2 n0 n1 n2
                    go_wp2_with fail
                    go_roundw
                    case rel => exact ⟨i + 1, by go_num, by omega, H7⟩
                    case measure => simp [intOf]; omega
                  · have hltI3 : ¬ (i : Int) < (m0 : Int) := by omega
                    have k1 := hi.out.ofP fun T g => plist_calls g
                    have K1 := Lib.hid (show Calls Try.prog 26 #[PtD p] wr (fun e w' => e = .returned (.tuple #[.int .i64 2, .int .i64 0]) ∧ Bk9 w1 w' p q bm (W.length : Int) ⟨W, 2, [1], 1⟩ (one W)) from k1)
                    clear hi k1
                    go_wp2_with fail
                    refine (K1.out).mono ?_
                    rintro e w4 ⟨rfl, h4⟩
                    have c0 := h4.c0
                    have c1 := h4.c1
                    have k2 := h4.ofP fun T g => pback_calls g ((W.length : Int) + 1) 1
                    rw [backR_more] at k2
                    have K2 := Lib.hid k2
                    have hW21 : (W.length : Int) ≤ 20 := by omega
                    clear h4 k2 K1
                    go_wp2_with fail
                    refine (K2.out).mono ?_
                    rintro e w5 ⟨rfl, h5⟩
                    have k3 := h5.ofP fun T g => pback_calls g 0 0
                    rw [backR_zero] at k3
                    have K3 := Lib.hid k3
                    clear h5 k3 K2
                    go_wp2_with fail
                    refine (K3.out).mono ?_
                    rintro e w6 ⟨rfl, h6⟩
                    have H6 := Lib.hid (HM1.out.trans h6.pq.m)
                    clear h6 K3
                    go_wp2_with fail
                    go_ret
                    exact ⟨by simp, H6.out⟩
end Go.Proofs.Ytldnpppbnakcoaa
