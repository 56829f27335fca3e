/- Layer 9: the walk of DictHides. No condition. -/
import Derived.Test.YtldnpppbnakcoaaDH1
namespace Go.Proofs.Ytldnpppbnakcoaa
open Go.RowKit
set_option linter.unusedVariables false

set_option maxHeartbeats 16000000 in
set_option maxRecDepth 100000 in
theorem hides_walk (w : World) (A : Option Addr) (n cap : Nat) (L : List ByteArray) (hn : n = L.length) (hA : TxIn w A L) (hcap : n ≤ cap) (hn2 : n ≤ 9223372036854775807) (T : ByteArray) (hT : T.size ≤ maxLen) (x : Int) (wx : (Lit.int .i64 x).wf = true) (y : Int) (wy : (Lit.int .i64 y).wf = true) :
    Calls Try.prog 4 #[.slice A n cap, .string T, .int .i64 x, .int .i64 y] w fun e w' => e = .returned (.bool true) ∧ Mod [] w w' := by
  replace hT : T.size ≤ 9223372036854775807 := hT
  clear wx wy
  obtain ⟨m0, hm0⟩ : ∃ m, m = min n 20 := ⟨_, rfl⟩
  have hmin0 : min (n : Int) 20 = (m0 : Int) := by omega
  have HUP0 := Lib.hid (fun W => texts_upto A n cap m0 (by omega) W)
  have HL := Lib.hid (show m0 ≤ L.length ∧ TxIn w A L from ⟨by omega, hA⟩)
  have hm20 : m0 ≤ 20 := by omega
  obtain ⟨q2, hq2⟩ : ∃ q, q = min T.size 40 := ⟨_, rfl⟩
  have hmin2 : min (T.size : Int) 40 = (q2 : Int) := by omega
  have hq2T : q2 ≤ T.size := by omega
  obtain ⟨Y2, hY2⟩ : ∃ Y, T.extract 0 q2 = Y := ⟨_, rfl⟩
  obtain ⟨s, hs⟩ : ∃ s, s = cutN 40 T := ⟨_, rfl⟩
  have hYs : Y2 = str s := by
    rw [← hY2, hs, ← cutN_min 40 T]
    congr 1
    show q2 = (min (T.size : Int) 40).toNat
    omega
  have HS := Lib.hid (And.intro hYs (show s.length ≤ 40 by rw [hs]; exact cutN_len 40 T))
  clear hn hA hm0 hq2 hs hYs
  have H0 := Lib.hid (shown_calls w)
  go_enter Try.func4, Try.ntmps4
  go_wp2_with fail
  refine (H0.out).mono ?_
  rintro e w1 ⟨rfl, hm1⟩
  have HM1 := Lib.hid hm1
  have H1 := Lib.hid (Du.new w1)
  clear hm1
  go_wp2_with fail
  refine (H1.out).mono ?_
  rintro e w2 ⟨p, rfl, h2, m2⟩
  have B2 := Lib.hid h2
  have hup := HUP0.out w2
  clear h2 m2 H0 H1
  go_wp2_with fail
  clear hup
  go_loopw [37] (fun z wr => ∃ (j : Nat) (W : List We), z = .int .i64 (j : Int) ∧ j ≤ m0 ∧ W.length ≤ j ∧ RowKit.Hid (Du w1 wr p [] (one W) ∧ ∀ a ∈ W, a.l = 1)) (fun z _ => m0 - (intOf z).toNat)
  case atStart => exact ⟨0, [], rfl, by omega, by simp, Lib.hid ⟨B2.out, by simp⟩⟩
  case round =>
    obtain ⟨j, W, rfl, hjm, hWj, hi⟩ := hrel
    by_cases hlt : j < m0
    · have hltI : (j : Int) < (m0 : Int) := by omega
      have hjL : j < L.length := by have := HL.out.1; omega
      obtain ⟨x0, hAx, hc⟩ := (HL.out.2.mod (HM1.out.trans hi.out.1.m)).cell j hjL
      have hsz := HL.out.2.size _ (List.getElem_mem hjL)
      obtain ⟨S, hS⟩ : ∃ S, S = L[j] := ⟨_, rfl⟩
      rw [← hS] at hc hsz
      obtain ⟨q, hq⟩ : ∃ q, q = min S.size 40 := ⟨_, rfl⟩
      have hmin1 : min (S.size : Int) 40 = (q : Int) := by omega
      have hqS : q ≤ S.size := by omega
      obtain ⟨Y, hY⟩ : ∃ Y, S.extract 0 q = Y := ⟨_, rfl⟩
      have hYc : Y = str (cutN 40 S) := by
        rw [← hY, ← cutN_min 40 S]
        congr 1
        show q = (min (S.size : Int) 40).toNat
        omega
      have hcl := cutN_len 40 S
      have k1 := hi.out.1.add (cutN 40 S) (j : Int) (by omega)
      rw [← hYc, addR_one] at k1
      obtain ⟨r, hr⟩ : ∃ r, r = (addR (one W) (cutN 40 S) (j : Int)).1 := ⟨_, rfl⟩
      obtain ⟨V, hV⟩ : ∃ V, V = addW W (cutN 40 S) (j : Int) := ⟨_, rfl⟩
      rw [← hr, ← hV] at k1
      have K1 := Lib.hid k1
      have HV := Lib.hid (show V.length ≤ j + 1 ∧ ∀ a ∈ V, a.l = 1 from ⟨by rw [hV]; have := addW_len W (cutN 40 S) (j : Int); omega, by rw [hV]; exact addW_l hi.out.2 _ _⟩)
      subst hAx
      clear hi hS hq hYc hcl k1 hr hV
      go_wp2_with fail
      refine (K1.out).mono ?_
      rintro e w3 ⟨rfl, h3, _⟩
      have H3 := Lib.hid h3
      clear h3
      go_wp2_with fail
      go_roundw
      case rel => exact ⟨j + 1, V, by go_num, by omega, HV.out.1, Lib.hid ⟨H3.out, HV.out.2⟩⟩
      case measure => simp [intOf]; omega
    · have hltI : ¬ (j : Int) < (m0 : Int) := by omega
      have hW20 : W.length ≤ 20 := by omega
      have k1 := hi.out.1.find s (by have := HS.out.2; omega)
      rw [← HS.out.1] at k1
      obtain ⟨N, nx, nb, nis, hres⟩ := resE_is (findW (one W).W (one W).O s)
      rw [hres] at k1
      have HRES := Lib.hid (show resE (findW W [1] s) = _ from hres)
      have K1 := Lib.hid k1
      have HWl := Lib.hid hi.out.2
      clear k1 hres hi
      go_wp2_with fail
      refine (K1.out).mono ?_
      rintro e w3 ⟨rfl, h3, m3⟩
      obtain ⟨n0, n1, n2⟩ := ent_new w3 N nx nb
      have h4 := h3.more (V := [w3.heap.size]) (w' := w3.alloc (.cells #[.string N, .int .i64 nx, .bool nb] 49)) ((Mod.refl [] w3).alloc _) (by simp)
      have k2 := h4.mark
      have K2 := Lib.hid (show Calls Try.prog 17 #[PtD p] (w3.alloc (.cells #[.string N, .int .i64 nx, .bool nb] 49)) (Durs w1 p [w3.heap.size] (.agg #[.int .i64 (W.length : Int), .int .i64 1]) (one W) (w3.alloc (.cells #[.string N, .int .i64 nx, .bool nb] 49))) from k2)
      have H4 := Lib.hid h4
      clear h3 m3 h4 k2 K1
      go_wp2_with fail
      refine (K2.out).mono ?_
      rintro e w5 ⟨rfl, h5, m5⟩
      have n0 := m5.cell (by simp) n0
      have n1 := m5.cell (by simp) n1
      have n2 := m5.cell (by simp) n2
      obtain ⟨b1, hb1⟩ : ∃ b, b = w3.heap.size := ⟨_, rfl⟩
      have hb15 : b1 < w5.heap.size := by
        have := m5.size
        rw [size_allocD] at this
        omega
      rw [← hb1] at n0 n1 n2 h5 ⊢
      have g03 : w1.heap.size ≤ w5.heap.size := h5.m.size
      clear m5 K2 H4
      obtain ⟨k0, k1⟩ := mark_new w5 (W.length : Int) 1
      have hm6 : Mod [] w5 (w5.alloc (.cells #[.int .i64 (W.length : Int), .int .i64 1] 31)) := (Mod.refl [] w5).alloc _
      have h6 := h5.more (V := [b1, w5.heap.size]) hm6 (by simp)
      have n0 := hm6.cell (by simp) n0
      have n1 := hm6.cell (by simp) n1
      have n2 := hm6.cell (by simp) n2
      have hsz6 : (w5.alloc (.cells #[.int .i64 (W.length : Int), .int .i64 1] 31)).heap.size = w5.heap.size + 1 := size_allocD _ _
      clear hb1
      have HB := Lib.hid (And.intro hb15 (And.intro g03 (And.intro h6 (And.intro n0 (And.intro n1 (And.intro n2 (And.intro k0 (And.intro k1 hsz6))))))))
      clear hb15 g03 h6 n0 n1 n2 k0 k1 hsz6 h5 hm6
      go_upto_region 13 with fail
      obtain ⟨b2, hb2⟩ : ∃ b, b = w5.heap.size := ⟨_, rfl⟩
      rw [← hb2] at HB ⊢
      generalize w5.alloc (.cells #[.int .i64 (W.length : Int), .int .i64 1] 31) = w6 at HB ⊢
      clear hb2
      obtain ⟨cp, w7, hcv, hB7, hM7⟩ := bytes_new w6 s
      rw [← HS.out.1] at hcv
      obtain ⟨g, hg⟩ : ∃ g, g = w6.heap.size := ⟨_, rfl⟩
      rw [← hg] at hcv hB7
      obtain ⟨ns, hns⟩ : ∃ ns, ns = s.length := ⟨_, rfl⟩
      rw [← hns] at hcv
      have hns40 : ns ≤ 40 := by have := HS.out.2; omega
      have HNS := Lib.hid hns
      obtain ⟨hb15, g03, h6, n0, n1, n2, k0, k1, hsz6⟩ := HB.out
      have HD := Lib.hid (show Hd w1 w7 p b1 b2 g (one W) N nx nb (W.length : Int) s from ⟨h6.more hM7 (by
          intro z hz
          rcases List.mem_cons.1 hz with rfl | hz
          · exact Or.inl (by simp)
          · rcases List.mem_cons.1 hz with rfl | hz
            · exact Or.inl (by simp)
            · rw [List.mem_singleton.1 hz]
              exact Or.inr ⟨by omega, hB7.lt⟩), hM7.cell (by simp) n0, hM7.cell (by simp) n1, hM7.cell (by simp) n2, hM7.cell (by simp) k0, hM7.cell (by simp) k1, hB7, by omega, by omega, by omega⟩)
      clear HB hb15 g03 h6 n0 n1 n2 k0 k1 hsz6 hB7 hM7 hns hg
      go_wp2_with fail
      go_loopw [68] (fun v wr => ∃ k : Nat, v = .int .i64 (k : Int) ∧ k ≤ ns ∧ RowKit.Hid (Hd w1 wr p b1 b2 g (one W) N nx nb (W.length : Int) ((capL s).take k ++ s.drop k))) (fun v _ => ns - (intOf v).toNat)
      case atStart => exact ⟨0, rfl, by omega, Lib.hid (by simpa using HD.out)⟩
      case round =>
        obtain ⟨k, rfl, hk, hi⟩ := hrel
        by_cases hlt : k < ns
        · have hkL : k < s.length := by rw [← HNS.out]; exact hlt
          have hlI : (k : Int) < (ns : Int) := by omega
          have hXl : ((capL s).take k ++ s.drop k).length = s.length := by simp [capL_len]; omega
          have hc := hi.out.bs.cell k (by omega)
          have hf := hi.out.bs.free k (by omega)
          have hat := cap_at s k hkL
          rw [List.getElem?_eq_getElem (by omega)] at hat
          rw [Option.some.inj hat] at hc
          obtain ⟨c, hcc⟩ : ∃ c, c = s[k] := ⟨_, rfl⟩
          rw [← hcc] at hc
          have hcn := c.toNat_lt
          have hfn := capC_nat c
          have s1 := hi.out.set k (capC c) (by omega)
          rw [hcc, cap_set s k hkL, ← hcc] at s1
          by_cases hcap : 97 ≤ c.toNat ∧ c.toNat ≤ 122
          · rw [if_pos hcap] at hfn
            rw [hfn] at s1
            obtain ⟨m, hm2⟩ : ∃ m, m = c.toNat := ⟨_, rfl⟩
            rw [← hm2] at hc hcn s1 hcap
            obtain ⟨q1, q2⟩ := hcap
            have e : ((m - 32 : Nat) : Int) = (m : Int) - 32 := by omega
            rw [e] at s1
            have hB1 := Lib.hid s1
            clear hi s1 hcc hfn hm2 hat e hXl
            go_wp2_with fail
            go_roundw
            case rel => exact ⟨k + 1, by go_num, by omega, hB1⟩
            case measure => simp [intOf]; omega
          · rw [if_neg hcap] at hfn
            have s2 := hi.out
            rw [cap_keep s k hkL (by rw [← hcc]; exact UInt8.toNat_inj.1 hfn)] at s2
            obtain ⟨m, hm2⟩ : ∃ m, m = c.toNat := ⟨_, rfl⟩
            rw [← hm2] at hc hcn hcap
            have hB1 := Lib.hid s2
            clear hi s1 s2 hcc hfn hm2 hat hXl
            by_cases q1 : 97 ≤ m
            · have q2 : ¬ m ≤ 122 := fun h => hcap ⟨q1, h⟩
              clear hcap
              go_wp2_with fail
              go_roundw
              case rel => exact ⟨k + 1, by go_num, by omega, hB1⟩
              case measure => simp [intOf]; omega
            · clear hcap
              go_wp2_with fail
              go_roundw
              case rel => exact ⟨k + 1, by go_num, by omega, hB1⟩
              case measure => simp [intOf]; omega
        · have hlI : ¬ (k : Int) < (ns : Int) := by omega
          have hd := hi.out
          rw [show k = s.length by have := HNS.out; omega, List.drop_length, List.append_nil, List.take_of_length_le (by rw [capL_len]; exact Nat.le_refl _)] at hd
          have hcv2 := hd.bs.conv ns cp (by rw [capL_len]; exact HNS.out)
          obtain ⟨G, hG⟩ : ∃ G, G = str (capL s) := ⟨_, rfl⟩
          rw [← hG] at hcv2
          have k1 := hd.d.add (capL s) x (by rw [capL_len]; have := HS.out.2; omega)
          rw [← hG] at k1
          have HG := Lib.hid hG
          have HD := Lib.hid hd
          clear hi hd hcv hG
          have hY2 := str_size s
          rw [← HS.out.1] at hY2
          by_cases hs0 : s.length = 0
          · rw [addR_empty W (capL s) x (by rw [capL_len]; exact hs0)] at k1
            have K1 := Lib.hid k1
            clear k1
            have hemp : Y2.toList.isEmpty = true := by
              rw [HS.out.1, List.eq_nil_of_length_eq_zero hs0, ByteArray.toList_eq]
              rfl
            clear hY2
            go_wp2_with fail
            refine (K1.out).mono ?_
            rintro e w8 ⟨rfl, h8, k8⟩
            have d8 := (HD.out.turn h8 k8).far (Mod.refl [] w8).drew
            have c0 := d8.c0
            have c1 := d8.c1
            have k2 := d8.d.mark
            have K2 := Lib.hid (show Calls Try.prog 17 #[PtD p] w8.drew (Durs w1 p [b1, b2, g] (.agg #[.int .i64 (W.length : Int), .int .i64 1]) (one W) w8.drew) from k2)
            clear h8 k8 d8 k2 hcv2
            go_upto_region 22 with fail
            go_region_held3 (fun V => V.cell? ⟨b2, 0, none⟩ = some (.int .i64 (W.length : Int)) ∧ V.cell? ⟨b2, 1, none⟩ = some (.int .i64 1)) (first | exact ⟨c0, c1⟩ | exact ⟨f0, f1⟩ | fail) (first
              | ((with_reducible refine (K2.out).mono ?_); rintro e w9 ⟨rfl, h9, m9⟩; have f0 := m9.cell (by simp) c0; have f1 := m9.cell (by simp) c1; have H9 := Lib.hid (HM1.out.trans h9.m); clear h9 m9)
              | fail)
            go_wp2_with fail
            go_ret
            exact ⟨by simp, H9.out⟩
          · have hemp : Y2.toList.isEmpty = false := by rw [HS.out.1]; exact nonempty_str (by omega)
            by_cases hs31 : 31 < s.length
            · rw [addR_long W (capL s) x (by rw [capL_len]; exact hs31)] at k1
              have K1 := Lib.hid k1
              clear k1
              have hl31 : (31 : Int) < (Y2.size : Int) := by rw [hY2]; omega
              clear hY2
              go_wp2_with fail
              refine (K1.out).mono ?_
              rintro e w8 ⟨rfl, h8, k8⟩
              have d8 := (HD.out.turn h8 k8).far (Mod.refl [] w8).drew
              have c0 := d8.c0
              have c1 := d8.c1
              have k2 := d8.d.mark
              have K2 := Lib.hid (show Calls Try.prog 17 #[PtD p] w8.drew (Durs w1 p [b1, b2, g] (.agg #[.int .i64 (W.length : Int), .int .i64 1]) (one W) w8.drew) from k2)
              clear h8 k8 d8 k2 hcv2
              go_upto_region 22 with fail
              go_region_held3 (fun V => V.cell? ⟨b2, 0, none⟩ = some (.int .i64 (W.length : Int)) ∧ V.cell? ⟨b2, 1, none⟩ = some (.int .i64 1)) (first | exact ⟨c0, c1⟩ | exact ⟨f0, f1⟩ | fail) (first
                | ((with_reducible refine (K2.out).mono ?_); rintro e w9 ⟨rfl, h9, m9⟩; have f0 := m9.cell (by simp) c0; have f1 := m9.cell (by simp) c1; have H9 := Lib.hid (HM1.out.trans h9.m); clear h9 m9)
                | fail)
              go_wp2_with fail
              go_ret
              exact ⟨by simp, H9.out⟩
            · have HSL := Lib.hid (show 1 ≤ s.length ∧ s.length ≤ 31 by omega)
              rw [addR_good W (capL s) x (by rw [capL_len]; omega) (by rw [capL_len]; omega) (by omega)] at k1
              have K1 := Lib.hid k1
              have hl31 : ¬ (31 : Int) < (Y2.size : Int) := by rw [hY2]; omega
              clear k1 hY2 hs0 hs31
              go_wp2_with fail
              refine (K1.out).mono ?_
              rintro e w8 ⟨rfl, h8, k8⟩
              have d8 := HD.out.turn h8 k8
              have k2 := d8.d.find s (by have := HS.out.2; omega)
              rw [show findW (one (W ++ [⟨capL s, x, false, 1⟩])).W (one (W ++ [⟨capL s, x, false, 1⟩])).O s = some ⟨capL s, x, false, 1⟩ from inW_top W ⟨capL s, x, false, 1⟩ s rfl (foldL_cap s), ← HS.out.1] at k2
              have K2 := Lib.hid (show Calls Try.prog 23 #[PtD p, .string Y2] w8 (Durs w1 p [b1, b2, g] (.tuple #[.agg #[.string G, .int .i64 x, .bool false], .bool true]) (one (W ++ [⟨capL s, x, false, 1⟩])) w8) from by rw [HG.out]; exact k2)
              have H8 := Lib.hid d8
              clear h8 k8 d8 k2 hcv2 K1 HD
              go_wp2_with fail
              refine (K2.out).mono ?_
              rintro e w9 ⟨rfl, h9, m9⟩
              have d9 := (H8.out.far m9).far ((Mod.refl [] w9).alloc (.cells #[.string G, .int .i64 x, .bool false] 49))
              obtain ⟨n0, n1, n2⟩ := ent_new w9 G x false
              have hcv2 := d9.bs.conv ns cp (by rw [capL_len]; exact HNS.out)
              rw [← HG.out] at hcv2
              have k3 := d9.d.now
              rw [nowR_one] at k3
              have K3 := Lib.hid (show Calls Try.prog 24 #[PtD p] _ (Dus w1 p [b1, b2, g] (.int .i64 0) (one (W ++ [⟨capL s, x, true, 1⟩])) _) from k3)
              have H9 := Lib.hid d9
              clear h9 m9 d9 k3 K2 H8
              go_wp2_with fail
              refine (K3.out).mono ?_
              rintro e w10 ⟨rfl, h10, k10⟩
              have d10 := H9.out.turn h10 k10
              have k4 := d10.d.find s (by have := HS.out.2; omega)
              rw [show findW (one (W ++ [⟨capL s, x, true, 1⟩])).W (one (W ++ [⟨capL s, x, true, 1⟩])).O s = some ⟨capL s, x, true, 1⟩ from inW_top W ⟨capL s, x, true, 1⟩ s rfl (foldL_cap s), ← HS.out.1] at k4
              have K4 := Lib.hid (show Calls Try.prog 23 #[PtD p, .string Y2] w10 (Durs w1 p [b1, b2, g] (.tuple #[.agg #[.string G, .int .i64 x, .bool true], .bool true]) (one (W ++ [⟨capL s, x, true, 1⟩])) w10) from by rw [HG.out]; exact k4)
              have H10 := Lib.hid d10
              clear h10 k10 d10 k4 hcv2 K3 H9 n0 n1 n2
              go_wp2_with fail
              refine (K4.out).mono ?_
              rintro e w11 ⟨rfl, h11, m11⟩
              have d11 := (H10.out.far m11).far ((Mod.refl [] w11).alloc (.cells #[.string G, .int .i64 x, .bool true] 49))
              obtain ⟨n0, n1, n2⟩ := ent_new w11 G x true
              have hcv2 := d11.bs.conv ns cp (by rw [capL_len]; exact HNS.out)
              rw [← HG.out] at hcv2
              have k5 := d11.d.add s y (by have := HS.out.2; omega)
              rw [addR_good _ s y HSL.out.1 HSL.out.2 (by simp; omega), ← HS.out.1] at k5
              have K5 := Lib.hid k5
              have H11 := Lib.hid d11
              clear h11 m11 d11 k5 K4 H10
              go_wp2_with fail
              refine (K5.out).mono ?_
              rintro e w12 ⟨rfl, h12, k12⟩
              have d12 := H11.out.turn h12 k12
              have c0 := d12.c0
              have c1 := d12.c1
              have k6 := d12.d.back (W.length : Int) 1
              rw [show W ++ [(⟨capL s, x, true, 1⟩ : We)] ++ [⟨s, y, false, 1⟩] = W ++ [⟨capL s, x, true, 1⟩, ⟨s, y, false, 1⟩] by simp, backR_one W _ HWl.out] at k6
              have K6 := Lib.hid k6
              have H12 := Lib.hid d12
              clear h12 k12 d12 k6 K5 H11 n0 n1 n2 hcv2
              go_wp2_with fail
              refine (K6.out).mono ?_
              rintro e w13 ⟨rfl, h13, k13⟩
              have d13 := H12.out.turn (by simpa using h13) k13
              have k7 := d13.d.find s (by have := HS.out.2; omega)
              rw [show resE (findW (one W).W (one W).O s) = _ from HRES.out, ← HS.out.1] at k7
              have K7 := Lib.hid k7
              have H13 := Lib.hid d13
              clear h13 k13 d13 k7 K6 H12 c0 c1
              go_wp2_with fail
              refine (K7.out).mono ?_
              rintro e w14 ⟨rfl, h14, m14⟩
              obtain ⟨n0, n1, n2⟩ := ent_new w14 N nx nb
              have hm15 : Mod [] w14 (w14.alloc (.cells #[.string N, .int .i64 nx, .bool nb] 49)) := (Mod.refl [] w14).alloc _
              have d15 := ((H13.out.far m14).far hm15).far (Mod.refl [] _).drew
              have n0 := ((Mod.refl [] (w14.alloc (.cells #[.string N, .int .i64 nx, .bool nb] 49))).drew).cell (by simp) n0
              have n1 := ((Mod.refl [] (w14.alloc (.cells #[.string N, .int .i64 nx, .bool nb] 49))).drew).cell (by simp) n1
              have n2 := ((Mod.refl [] (w14.alloc (.cells #[.string N, .int .i64 nx, .bool nb] 49))).drew).cell (by simp) n2
              have c0 := d15.c0
              have c1 := d15.c1
              have e0 := d15.e0
              have e1 := d15.e1
              have e2 := d15.e2
              have K8 := Lib.hid (show Calls Try.prog 17 #[PtD p] _ (Durs w1 p [b1, b2, g] (.agg #[.int .i64 (W.length : Int), .int .i64 1]) (one W) _) from d15.d.mark)
              clear h14 m14 d15 K7 H13 hm15
              go_upto_region 30 with fail
              go_region_held3 (fun V => (V.cell? ⟨w14.heap.size, 0, none⟩ = some (.string N) ∧ V.cell? ⟨w14.heap.size, 1, none⟩ = some (.int .i64 nx) ∧ V.cell? ⟨w14.heap.size, 2, none⟩ = some (.bool nb)) ∧ (V.cell? ⟨b1, 0, none⟩ = some (.string N) ∧ V.cell? ⟨b1, 1, none⟩ = some (.int .i64 nx) ∧ V.cell? ⟨b1, 2, none⟩ = some (.bool nb)) ∧ V.cell? ⟨b2, 0, none⟩ = some (.int .i64 (W.length : Int)) ∧ V.cell? ⟨b2, 1, none⟩ = some (.int .i64 1)) (first | exact ⟨⟨n0, n1, n2⟩, ⟨e0, e1, e2⟩, c0, c1⟩ | exact ⟨⟨f2, f3, f4⟩, ⟨f5, f6, f7⟩, f0, f1⟩ | fail) (first
                | ((with_reducible refine (K8.out).mono ?_); rintro e w16 ⟨rfl, h16, m16⟩; have f0 := m16.cell (by simp) c0; have f1 := m16.cell (by simp) c1; have f2 := m16.cell (by simp) n0; have f3 := m16.cell (by simp) n1; have f4 := m16.cell (by simp) n2; have f5 := m16.cell (by simp) e0; have f6 := m16.cell (by simp) e1; have f7 := m16.cell (by simp) e2; have H16 := Lib.hid (HM1.out.trans h16.m); clear h16 m16)
                | fail)
              go_wp2_with fail
              go_ret
              exact ⟨by simp, H16.out⟩
end Go.Proofs.Ytldnpppbnakcoaa
