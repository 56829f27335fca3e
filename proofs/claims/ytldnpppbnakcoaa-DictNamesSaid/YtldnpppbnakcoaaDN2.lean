/- Layer 9: the walk of DictNames. No condition. -/
import Derived.Test.YtldnpppbnakcoaaDN1
namespace Go.Proofs.Ytldnpppbnakcoaa
open Go.RowKit
set_option linter.unusedVariables false

theorem fold_nonempty {s : List UInt8} (h : 1 ≤ s.length) : (str s).toList.isEmpty = false := by
  rw [ByteArray.toList_eq, List.isEmpty_eq_false_iff]
  intro e
  have h3 : (str s).data.toList.length = s.length := by simp [str]
  rw [e] at h3
  have h3 : 0 = s.length := h3
  omega
theorem rev_get (X : List (List UInt8)) (i : Nat) (hi : i < (X.reverse.map str).length) : (X.reverse.map str)[i] = str (X[X.length - 1 - i]'(by simp at hi; omega)) := by simp
theorem tx_rev {w : World} {A : Option Addr} {X : List (List UInt8)} (h : TxAt w A (X.reverse.map str)) (t d : Nat) (ht : t < X.length) (hd : d + t + 1 = X.length) : ∃ b o, A = some ⟨b, o, none⟩ ∧ w.cell? ⟨b, o + d, none⟩ = some (.string (str X[t])) := by
  have hdl : d < (X.reverse.map str).length := by simp; omega
  obtain ⟨b, o, e, hc⟩ := h d hdl
  refine ⟨b, o, e, ?_⟩
  rw [hc, rev_get X d hdl]
  have : X.length - 1 - d = t := by omega
  simp only [this]
set_option maxHeartbeats 16000000 in
set_option maxRecDepth 100000 in
theorem names_walk (w : World) (A : Option Addr) (n cap : Nat) (L : List ByteArray) (hn : n = L.length) (hA : TxIn w A L) (hcap : n ≤ cap) (hn2 : n ≤ 9223372036854775807) :
    Calls Try.prog 7 #[.slice A n cap] w fun e w' => e = .returned (.bool true) ∧ Mod [] w w' := by
  have HA := Lib.hid hA
  have HN := Lib.hid hn
  clear hA hn
  have H0 := Lib.hid (shown_calls w)
  go_enter Try.func7, Try.ntmps7
  go_wp2_with fail
  refine (H0.out).mono ?_
  rintro e w1 ⟨rfl, hm1⟩
  have HM1 := Lib.hid hm1
  have H1 := Lib.hid (Du.new w1)
  clear hm1
  go_wp2_with fail
  refine (H1.out).mono ?_
  rintro e w2 ⟨p, rfl, h2, m2⟩
  have B2 := Lib.hid h2
  have M2 := Lib.hid m2
  clear h2 m2
  go_wp2_with fail
  go_loopw [5, 22] (fun y z wr => ∃ (j : Nat) (X : List (List UInt8)), z = .int .i64 (j : Int) ∧ j ≤ n ∧ X.length ≤ j ∧ X.length ≤ 30 ∧ RowKit.Hid (Du w1 wr p y.ownBlock.toList (dictX X) ∧ Sr wr w1.heap.size y (X.reverse.map str) ∧ ∀ x ∈ X, 1 ≤ x.length ∧ x.length ≤ 31)) (fun _ z _ => n - (intOf z).toNat)
  case atStart => exact ⟨0, [], rfl, by omega, by simp, by simp, Lib.hid ⟨B2.out, Sr.nil _ _, by simp⟩⟩
  case round =>
    obtain ⟨j, X, rfl, hjn, hXj, hX30, hi⟩ := hrel
    by_cases hlt : j < n
    · have hltI : (j : Int) < (n : Int) := by omega
      have hjL : j < L.length := by rw [← HN.out]; exact hlt
      obtain ⟨x, hAx, hc⟩ := (HA.out.mod (HM1.out.trans hi.out.1.m)).cell j hjL
      have hsz := HA.out.size _ (List.getElem_mem hjL)
      obtain ⟨S, hS⟩ : ∃ S, S = L[j] := ⟨_, rfl⟩
      rw [← hS] at hc hsz
      have HI := Lib.hid hi.out
      obtain ⟨c, hcc⟩ : ∃ c, c = cutN 31 S := ⟨_, rfl⟩
      have hcl : c.length ≤ 31 := by rw [hcc]; exact cutN_len 31 S
      have HC := Lib.hid hcc
      subst hAx
      clear hi hS hcc
      go_upto_region 9 with fail
      go_cut [8] (fun u wx => u = .string (str c) ∧ wr = wx)
      case first =>
        go_wp2_with fail
        all_goals
          go_meet
          exact ⟨by rw [HC.out, ← cutN_min 31 S]; rfl, rfl⟩
      case rest =>
        obtain ⟨rfl, rfl⟩ := hcut
        by_cases h30 : j < 30
        · have h30I : (j : Int) < 30 := by omega
          by_cases hc0 : c.length = 0
          · have hemp : (str c).toList.isEmpty = true := by
              obtain rfl : c = [] := List.eq_nil_of_length_eq_zero hc0
              rw [ByteArray.toList_eq]
              rfl
            obtain ⟨Y, hY⟩ : ∃ Y, Y = str c := ⟨_, rfl⟩
            rw [← hY] at hemp ⊢
            clear hY
            go_wp2_with fail
            go_roundw
            case rel => exact ⟨j + 1, X, by go_num, by omega, by omega, hX30, HI⟩
            case measure => simp [intOf]; omega
          · have hemp := fold_nonempty (s := c) (by omega)
            have HCL := Lib.hid (show 1 ≤ c.length ∧ c.length ≤ 31 by omega)
            obtain ⟨Ay, cy, hy, hty⟩ := HI.out.2.1.txat
            have hadd := HI.out.1.add c (X.length : Int) (by omega)
            rw [dictX_add X c (by omega) hcl (by omega)] at hadd
            have hml : (X.reverse.map str).length = X.length := by simp
            rw [hml] at hy
            have hnil : Ay = none → cy = 0 := fun e => by
              have h := HI.out.2.1.2
              subst hy e
              rcases h with ⟨e2, _⟩ | ⟨g, cp, cur, e2, _⟩
              · injection e2
              · injection e2 with e2; cases e2
            subst hy
            obtain ⟨Y, hY⟩ : ∃ Y, Y = str c := ⟨_, rfl⟩
            have HY := Lib.hid hY
            rw [← hY] at hemp hadd ⊢
            obtain ⟨m, hm⟩ : ∃ m, m = X.length := ⟨_, rfl⟩
            have HMX := Lib.hid hm
            have hm30 : (m : Int) ≤ 30 := by omega
            rw [← hm] at hadd hml hXj hX30
            rw [← hm] at HI
            rw [← hm]
            have HAD := Lib.hid hadd
            have HT := Lib.hid hty
            have HML := Lib.hid hml
            have HNIL := Lib.hid hnil
            clear hY hm hadd hty hc0 hml hnil
            go_wp2_with fail
            refine (HAD.out).mono ?_
            rintro e w3 ⟨rfl, h3, k3⟩
            have H3 := Lib.hid h3
            have hk := HI.out.2.1
            have R3 := Lib.hid (show Sr w3 w1.heap.size (.slice Ay m cy) (X.reverse.map str) from row_keep hk k3 fun g hg => by simp [hg])
            have T3 : TxAt (w3.alloc (.cells #[.string Y] 9)) Ay (X.reverse.map str) := by
              obtain ⟨A', c', e', h'⟩ := R3.out.txat
              injection e' with e1 e2 e3
              subst e1
              exact h'.far ((Mod.refl [] w3).alloc _)
            have T3 := Lib.hid T3
            have HL := Lib.hid (Sr.lit w3 w3.heap.size (Nat.le_refl _) Y)
            have HSZ := Lib.hid (show w3.heap.size ≤ (w3.alloc (.cells #[.string Y] 9)).heap.size by rw [size_allocD]; omega)
            have HXL := Lib.hid (show [Y].length + (X.reverse.map str).length ≤ 1000000000 by rw [HML.out]; simp; omega)
            clear h3 k3 hk
            go_wp2_with (refine wpList_appTN rfl (.tmp 45) (.tmp 46) rfl HL.out HSZ.out T3.out HML.out.symm HNIL.out HXL.out rfl rfl ?_)
            intro v' w' b1 b2
            have M3 : Mod [] w3 w' := ((Mod.refl [] w3).alloc (.cells #[.string Y] 9)).below_of b2 (Nat.le_refl _)
            have D3 := H3.out.more (V := v'.ownBlock.toList) M3 fun x hx => Or.inr (b1.own x (by simpa using hx))
            have REL := Lib.hid (show Du w1 w' p v'.ownBlock.toList (dictX (X ++ [c])) ∧ Sr w' w1.heap.size v' ((X ++ [c]).reverse.map str) ∧ ∀ x ∈ X ++ [c], 1 ≤ x.length ∧ x.length ≤ 31 from ⟨D3, by
              have := b1.base H3.out.m.size
              rw [HY.out] at this
              simpa using this, fun x hx => (List.mem_append.1 hx).elim (HI.out.2.2 x) fun hx => by rw [List.mem_singleton.1 hx]; exact HCL.out⟩)
            clear b1 b2 M3 D3
            go_wp2_with fail
            go_roundw
            case rel => exact ⟨j + 1, X ++ [c], by go_num, by omega, by have := HMX.out; simp; omega, by have := HMX.out; simp; omega, REL⟩
            case measure => simp [intOf]; omega
        · have h30I : ¬ (j : Int) < 30 := by omega
          obtain ⟨Y, hY⟩ : ∃ Y, Y = str c := ⟨_, rfl⟩
          rw [← hY]
          clear hY
          go_wp2_with fail
          go_roundw
          case rel => exact ⟨j + 1, X, by go_num, by omega, by omega, hX30, HI⟩
          case measure => simp [intOf]; omega
    · have hltI : ¬ (j : Int) < (n : Int) := by omega
      have HI := Lib.hid hi.out
      clear hi
      have hml : (X.reverse.map str).length = X.length := by simp
      obtain ⟨Ay, cy, hy, hty⟩ := HI.out.2.1.txat
      rw [hml] at hy
      subst hy
      obtain ⟨m, hm⟩ : ∃ m, m = X.length := ⟨_, rfl⟩
      have HMX := Lib.hid hm
      rw [← hm] at hml hX30
      have hm30 : (m : Int) ≤ 30 := by omega
      rw [← hm] at HI
      rw [← hm]
      have K1 := HI.out.1.names 1
      rw [show namesW (dictX X).W 1 = X.reverse.map str from names_mk X] at K1
      unfold Dut at K1
      rw [hml] at K1
      have K1 := Lib.hid K1
      have HT := Lib.hid hty
      have HML := Lib.hid hml
      clear hm hty hml
      go_wp2_with fail
      refine (K1.out).mono ?_
      rintro e w3 ⟨A3, c3, rfl, t3, h3, m3⟩
      have K2 := Lib.hid (texts_same (c := c3) (d := cy) t3 (HT.out.far m3) HML.out.symm HML.out.symm (by omega))
      have H3 := Lib.hid h3
      have T3 := Lib.hid (HT.out.far m3)
      clear t3 h3 m3
      go_wp2_with fail
      refine (K2.out).mono ?_
      rintro e w4 ⟨rfl, m4⟩
      have h4 := H3.out.far m4
      have T4 := Lib.hid (T3.out.far m4)
      have k3 := h4.mark
      rw [show ((dictX X).W.length : Int) = (m : Int) by rw [HMX.out]; show ((mkW X).length : Int) = _; rw [mkW_len]] at k3
      have K3 := Lib.hid k3
      clear m4 h4 k3
      go_wp2_with fail
      refine (K3.out).mono ?_
      rintro e w5 ⟨rfl, h5, k5⟩
      have k6 := h5.names 0
      rw [show namesW (dictX X).W 0 = [] from names_mk_no X 0 (by omega)] at k6
      have K6 := Lib.hid k6
      have T5 := T4.out.far k5
      clear k6 h5 k5
      go_wp2_with fail
      refine (K6.out).mono ?_
      rintro e w6 ⟨A6, c6, rfl, _, h6, m6⟩
      have k7 := h6.names 2
      rw [show namesW (dictX X).W 2 = [] from names_mk_no X 2 (by omega)] at k7
      have K7 := Lib.hid k7
      have T6 := Lib.hid (T5.far m6)
      clear k7 h6 m6 T5
      go_wp2_with fail
      refine (K7.out).mono ?_
      rintro e w7 ⟨A7, c7, rfl, _, h7, m7⟩
      have H7 := Lib.hid h7
      have T7 := Lib.hid (T6.out.far m7)
      have M7 := Mod.refl [] w7
      clear h7 m7
      go_wp2_with fail
      go_loopw [76] (fun z wr => ∃ k : Nat, z = .int .i64 (k : Int) ∧ k ≤ m ∧ RowKit.Hid (Du w1 wr p (Value.slice Ay m cy).ownBlock.toList (dictX X) ∧ Mod [] w7 wr)) (fun z _ => m - (intOf z).toNat)
      case atStart => exact ⟨0, rfl, by omega, Lib.hid ⟨H7.out, M7⟩⟩
      case round =>
        clear M7
        obtain ⟨k, rfl, hkm, hi⟩ := hrel
        by_cases hlt2 : k < m
        · have hltI2 : (k : Int) < (m : Int) := by omega
          have hkX : k < (X.reverse.map str).length := by rw [HML.out]; exact hlt2
          obtain ⟨b, o, hAy, hc⟩ := (T7.out.far hi.out.2) k hkX
          have hq : X.length - 1 - k < X.length := by have := HMX.out; omega
          rw [rev_get X k hkX] at hc
          obtain ⟨t, hkt, htl, hfind, hlen⟩ := find_mk X (X.length - 1 - k) hq
          have hx31 := HI.out.2.2 _ (List.getElem_mem hq)
          have kf := hi.out.1.find X[X.length - 1 - k] (by omega)
          rw [show findW (dictX X).W (dictX X).O X[X.length - 1 - k] = _ from hfind] at kf
          have htm : t < m := by have := HMX.out; omega
          obtain ⟨d, hd⟩ : ∃ d, d = m - 1 - t := ⟨_, rfl⟩
          obtain ⟨b2, o2, hAy2, hc2⟩ := tx_rev (T7.out.far hi.out.2) t d htl (by have := HMX.out; omega)
          rw [hAy] at hAy2
          injection hAy2 with hAy2
          injection hAy2 with e1 e2
          subst e1 e2
          obtain ⟨m1, hm1⟩ : ∃ m1, m1 = m - 1 := ⟨_, rfl⟩
          obtain ⟨q, hqq⟩ : ∃ q, q = m - 1 - k := ⟨_, rfl⟩
          have hI1 : (m : Int) - 1 = (m1 : Int) := by omega
          have hI2 : (m1 : Int) - (t : Int) = (d : Int) := by omega
          have hI3 : (m1 : Int) - (k : Int) = (q : Int) := by omega
          have HI4 := Lib.hid (show decide (t < q) = false from decide_eq_false (by have := HMX.out; omega))
          have hdm : (d : Int) < (m : Int) := by omega
          have hs1 := str_size X[X.length - 1 - k]
          have hs2 := str_size X[t]
          obtain ⟨G, hG⟩ : ∃ G, G = str X[X.length - 1 - k] := ⟨_, rfl⟩
          obtain ⟨F, hF⟩ : ∃ F, F = str X[t] := ⟨_, rfl⟩
          rw [← hG] at hc hs1 kf
          rw [← hF] at hc2 hs2
          have hGF : F.size = G.size := by rw [hs1, hs2, hlen]
          have hGF2 : ((F.size : Int) == (G.size : Int)) = true := by rw [beq_iff_eq]; omega
          have KF := Lib.hid (show Calls Try.prog 23 #[PtD p, .string G] wr (Durs w1 p (Value.slice Ay m cy).ownBlock.toList (.tuple #[.agg #[.string F, .int .i64 (t : Int), .bool false], .bool true]) (dictX X) wr) from by rw [hF]; exact kf)
          have HI2 := Lib.hid hi.out
          have hc3 := Lib.hid hc2
          subst hAy
          clear hi kf hfind hlen hx31 hq htl hkX hs1 hs2 hG hF hd hm1 hqq hkt hc2
          go_wp2_with fail
          refine (KF.out).mono ?_
          rintro e w8 ⟨rfl, h8, m8⟩
          have H8 := Lib.hid (h8.far ((Mod.refl [] w8).alloc (.cells #[.string F, .int .i64 (t : Int), .bool false] 49)))
          have M8 := Lib.hid ((HI2.out.2.trans m8).alloc (.cells #[.string F, .int .i64 (t : Int), .bool false] 49))
          have hc4 := (m8.alloc (.cells #[.string F, .int .i64 (t : Int), .bool false] 49)).cell (by simp) hc3.out
          obtain ⟨n0, n1, n2⟩ := ent_new w8 F (t : Int) false
          clear h8 m8 hc
          go_wp2_with fail
          have hI4 := HI4.out
          go_quiet (fail)
          go_wp2
          go_roundw
          case rel => exact ⟨k + 1, by go_num, by omega, Lib.hid ⟨H8.out.far ((Mod.refl [] _).drewN _), M8.out.drewN _⟩⟩
          case measure => simp [intOf]; omega
        · have hltI2 : ¬ (k : Int) < (m : Int) := by omega
          have k8 := hi.out.1.find [] (by simp)
          rw [show findW (dictX X).W (dictX X).O [] = none from find_mk_none X fun x hx => (HI.out.2.2 x hx).1] at k8
          have K8 := Lib.hid (show Calls Try.prog 23 #[PtD p, .string { data := #[] }] wr (Durs w1 p (Value.slice Ay m cy).ownBlock.toList (.tuple #[.agg #[.string ⟨#[]⟩, .int .i64 0, .bool false], .bool false]) (dictX X) wr) from k8)
          clear k8 hi
          go_wp2_with fail
          refine (K8.out).mono ?_
          rintro e w8 ⟨rfl, h8, m8⟩
          have H8 := Lib.hid (HM1.out.trans h8.m)
          clear h8 m8
          go_wp2_with fail
          go_ret
          exact ⟨by simp, H8.out.alloc _⟩
end Go.Proofs.Ytldnpppbnakcoaa
