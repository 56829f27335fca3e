/- Layer 9: the walk of DictOrders. No condition. -/
import Derived.Test.YtldnpppbnakcoaaDO1
namespace Go.Proofs.Ytldnpppbnakcoaa
open Go.RowKit
set_option linter.unusedVariables false

set_option maxHeartbeats 16000000 in
set_option maxRecDepth 100000 in
theorem orders_walk (w : World) (A0 : Option Addr) (n0 cap0 : Nat) (z0 : List Int) (R0 : RowIn .u8 w A0 n0 cap0 z0) (A1 : Option Addr) (n1 cap1 : Nat) (z1 : List Int) (R1 : RowIn .u8 w A1 n1 cap1 z1) :
    Calls Try.prog 5 #[.slice A0 n0 cap0, .slice A1 n1 cap1] w fun e w' => e = .returned (.bool true) ∧ Mod [] w w' := by
  obtain ⟨l0, hl0, hA0⟩ := R0.bytes
  obtain ⟨l1, hl1, hA1⟩ := R1.bytes
  have hc0 := R0.le
  have hc1 := R1.le
  obtain ⟨m0, hm0⟩ : ∃ m, m = min n0 20 := ⟨_, rfl⟩
  obtain ⟨m1, hm1⟩ : ∃ m, m = min n1 8 := ⟨_, rfl⟩
  have hmin0 : min (n0 : Int) 20 = (m0 : Int) := by omega
  have hmin1 : min (n1 : Int) 8 = (m1 : Int) := by omega
  have hup0 := upto_in w 52 5 Try.underlying52 Try.sizeByteIn A0 n0 cap0 m0 (by omega)
  have HUP0 := Lib.hid (fun W => upto_in W 52 5 Try.underlying52 Try.sizeByteIn A0 n0 cap0 m0 (by omega))
  have HUP1 := Lib.hid (fun W => upto_in W 52 5 Try.underlying52 Try.sizeByteIn A1 n1 cap1 m1 (by omega))
  have HL := Lib.hid (show m0 ≤ l0.length ∧ m1 ≤ l1.length ∧ LiesIn w A0 l0 ∧ LiesIn w A1 l1 from ⟨by omega, by omega, hA0, hA1⟩)
  have hm20 : m0 ≤ 20 := by omega
  have hm8 : m1 ≤ 8 := by omega
  have hn0 : n0 ≤ 9223372036854775807 := by omega
  have hn1 : n1 ≤ 9223372036854775807 := by omega
  clear R0 R1 hl0 hl1 hA0 hA1 hc0 hc1 hm0 hm1 hup0
  have H0 := Lib.hid (shown_calls w)
  go_enter Try.func5, Try.ntmps5
  go_wp2_with fail
  refine (H0.out).mono ?_
  rintro e w1 ⟨rfl, hm1⟩
  have HM1 := Lib.hid hm1
  have H1 := Lib.hid (Du.new w1)
  clear hm1
  go_wp2_with fail
  refine (H1.out).mono ?_
  rintro e w2 ⟨p, rfl, h2, m2⟩
  have B2 := Lib.hid h2
  clear h2 m2
  go_wp2_with fail
  go_loopw [27] (fun z wr => ∃ (j : Nat), z = .int .i64 (j : Int) ∧ j ≤ 7 ∧ RowKit.Hid (Du w1 wr p [] ⟨[], j + 1, [1], 1⟩)) (fun z _ => 7 - (intOf z).toNat)
  case atStart => exact ⟨0, rfl, by omega, B2⟩
  case round =>
    obtain ⟨j, rfl, hj7, hi⟩ := hrel
    by_cases hlt : j < 7
    · have hltI : (j : Int) < 7 := by omega
      have k1 := hi.out.list_yes (by show j + 1 < 8; omega)
      rw [show ((Di.mk [] (j + 1) [1] 1).k + 1 : Nat) = ((j + 2 : Nat)) from rfl, show ((j + 2 : Nat) : Int) = (j : Int) + 2 by omega] at k1
      have K1 := Lib.hid k1
      clear k1 hi
      go_wp2_with fail
      refine (K1.out).mono ?_
      rintro e w3 ⟨rfl, h3, _⟩
      have H3 := Lib.hid h3
      clear h3
      go_wp2_with fail
      go_roundw
      case rel => exact ⟨j + 1, by go_num, by omega, H3⟩
      case measure => simp [intOf]; omega
    · have hltI : ¬ (j : Int) < 7 := by omega
      obtain rfl : j = 7 := by omega
      have K1 := Lib.hid (hi.out.list_no (by show ¬ 8 < 8; omega))
      clear hi
      go_wp2_with fail
      refine (K1.out).mono ?_
      rintro e w3 ⟨rfl, h3, _⟩
      have H3 := Lib.hid h3
      clear h3
      have hmk := make_nine w3
      have N0 := Lib.hid (Nine.new w3)
      have B0 := Lib.hid (H3.out.more (V := [w3.heap.size]) (w' := w3.alloc (.cells (intsV (List.replicate 9 0)).toArray 3)) ((Mod.refl [] w3).alloc _) (by simp))
      have hg0 := H3.out.m.size
      generalize hWW : w3.alloc (.cells (intsV (List.replicate 9 0)).toArray 3) = W4 at hmk N0 B0
      obtain ⟨g, hg⟩ : ∃ g, g = w3.heap.size := ⟨_, rfl⟩
      rw [← hg] at hmk N0 B0 hg0
      have hup := HUP0.out W4
      clear hWW hg
      go_wp2_with fail
      clear hup hmk
      go_loopw [56] (fun z wr => ∃ (j : Nat) (W : List We) (c : Int) (Wt : List Int), z = .int .i64 (j : Int) ∧ j ≤ m0 ∧ RowKit.Hid (W.length = j ∧ Du w1 wr p [g] ⟨W, 8, [1], c⟩ ∧ Nine wr g Wt ∧ OrdI W Wt)) (fun z _ => m0 - (intOf z).toNat)
      case atStart => exact ⟨0, [], 1, _, rfl, by omega, Lib.hid ⟨rfl, B0.out, N0.out, OrdI.start⟩⟩
      case round =>
        obtain ⟨j, W, c, Wt, rfl, hjm, hi⟩ := hrel
        by_cases hlt : j < m0
        · have hltI : (j : Int) < (m0 : Int) := by omega
          have hjl : j < l0.length := by have := HL.out.1; omega
          obtain ⟨x, hAx, hc⟩ := (HL.out.2.2.1.mod (HM1.out.trans hi.out.2.1.m)) j hjl
          have hnb := l0[j].toNat_lt
          obtain ⟨n, hn⟩ : ∃ n, n = l0[j].toNat := ⟨_, rfl⟩
          rw [← hn] at hc hnb
          obtain ⟨b, hb⟩ : ∃ b, b = n % 8 := ⟨_, rfl⟩
          have hbI : (n : Int) % 8 = (b : Int) := by omega
          obtain ⟨k, hk⟩ : ∃ k, k = b + 1 := ⟨_, rfl⟩
          have hkI : (b : Int) + 1 = (k : Int) := by omega
          have hb8 : b < 8 := by omega
          have hk8 : k ≤ 8 := by omega
          have hk1 : 1 ≤ k := by omega
          have hkn : (k : Int) < 9 := by omega
          have HK := Lib.hid (show k < 9 ∧ 1 ≤ k ∧ k ≤ 8 by omega)
          have k1 := hi.out.2.1.setcur_yes (k : Int) (by unfold Di.known; simp; omega)
          have K1 := Lib.hid k1
          have HI := Lib.hid hi.out
          subst hAx
          clear hi k1 hn hb hk hk8 hk1
          go_wp2_with fail
          refine (K1.out).mono ?_
          rintro e w5 ⟨rfl, h5, k5⟩
          have k2 := h5.add_yes lowN ((j : Int) + 1) (by decide) (by decide) (by have := HI.out.1; show W.length < 2000; omega)
          have K2 := Lib.hid (show Calls Try.prog 22 #[PtD p, .string { data := #[110, 97, 109, 101] }, .int .i64 ((j : Int) + 1)] w5 (Dus w1 p [g] (.int .i64 0) ⟨W ++ [⟨lowN, (j : Int) + 1, false, (k : Int)⟩], 8, [1], (k : Int)⟩ w5) from k2)
          have N5 := Lib.hid (HI.out.2.2.1.keep k5 (by simp))
          clear h5 k5 k2
          go_wp2_with fail
          refine (K2.out).mono ?_
          rintro e w6 ⟨rfl, h6, k6⟩
          have K3 := Lib.hid h6.current
          have N6 := Lib.hid (N5.out.keep k6 (by simp))
          clear h6 k6
          go_wp2_with fail
          refine (K3.out).mono ?_
          rintro e w7 ⟨rfl, h7, m7⟩
          have N7 := Lib.hid (N6.out.keep (Keep.of m7) (U := [g]) (by simp))
          obtain ⟨f, hf, _⟩ := HI.out.2.2.2.at_ k HK.out.2.1 HK.out.2.2
          have hcell := N7.out.cell k HK.out.1 f hf
          have hfree := N7.out.free k
          have ST := N7.out.set k ((j : Int) + 1)
          have REL := Lib.hid (show Du w1 (w7.setCell ⟨g, k, none⟩ (.int .i64 ((j : Int) + 1))) p [g] ⟨W ++ [⟨lowN, (j : Int) + 1, false, (k : Int)⟩], 8, [1], (k : Int)⟩ ∧ Nine (w7.setCell ⟨g, k, none⟩ (.int .i64 ((j : Int) + 1))) g (Wt.set k ((j : Int) + 1)) ∧ OrdI (W ++ [⟨lowN, (j : Int) + 1, false, (k : Int)⟩]) (Wt.set k ((j : Int) + 1)) from ⟨h7.store ST.2 (by simp) (by simp; exact hg0), ST.1, HI.out.2.2.2.step k _ HK.out.2.1 HK.out.2.2 (by omega)⟩)
          clear h7 m7 ST hf
          go_wp2_with fail
          go_roundw
          case rel => exact ⟨j + 1, _, _, _, by go_num, by omega, Lib.hid ⟨by have := HI.out.1; simp; omega, REL.out⟩⟩
          case measure => simp [intOf]; omega
        · have hltI : ¬ (j : Int) < (m0 : Int) := by omega
          have HI := Lib.hid hi.out
          have hup := HUP1.out wr
          clear hi
          go_wp2_with fail
          clear hup
          go_loopw [16, 17, 94] (fun y f z wx => ∃ (i : Nat) (Y : List Int) (fv : Int), z = .int .i64 (i : Int) ∧ f = .int .i64 fv ∧ i ≤ m1 ∧ Y.length = i ∧ RowKit.Hid (Ord3 w1 wx p g y ⟨W, 8, [1], c⟩ Wt Y ∧ (∀ v ∈ Y, 1 ≤ v ∧ v ≤ 8) ∧ FirI W Y fv)) (fun _ _ z _ => m1 - (intOf z).toNat)
          case atStart => exact ⟨0, [], 0, rfl, rfl, by omega, rfl, Lib.hid ⟨⟨HI.out.2.1, HI.out.2.2.1, Ir.nil _ _, by simp [Value.ownBlock]⟩, by simp, FirI.start W⟩⟩
          case round =>
            obtain ⟨i, Y, fv, rfl, rfl, him, hYi, hi⟩ := hrel
            by_cases hlt2 : i < m1
            · have hltI2 : (i : Int) < (m1 : Int) := by omega
              have hjl : i < l1.length := by have := HL.out.2.1; omega
              obtain ⟨x, hAx, hc⟩ := (HL.out.2.2.2.mod (HM1.out.trans hi.out.1.d.m)) i hjl
              have hnb := l1[i].toNat_lt
              obtain ⟨n, hn⟩ : ∃ n, n = l1[i].toNat := ⟨_, rfl⟩
              rw [← hn] at hc hnb
              obtain ⟨b, hb⟩ : ∃ b, b = n % 8 := ⟨_, rfl⟩
              have hbI : (n : Int) % 8 = (b : Int) := by omega
              obtain ⟨k, hk⟩ : ∃ k, k = b + 1 := ⟨_, rfl⟩
              have hkI : (b : Int) + 1 = (k : Int) := by omega
              have hb8 : b < 8 := by omega
              have hkn : (k : Int) < 9 := by omega
              have HK := Lib.hid (show k < 9 ∧ 1 ≤ k ∧ k ≤ 8 by omega)
              have HI3 := Lib.hid hi.out
              have al := hi.out.1.far ((Mod.refl [] wr).alloc (.cells #[.int .i64 (k : Int)] 3))
              have HA := Lib.hid al
              have HO := Lib.hid (one_int wr (k : Int))
              have HSZ := Lib.hid (al.d.m.size)
              have hYl : Y.length ≤ 1000000000 := by omega
              subst hAx
              clear hi hn hb hk al
              go_wp2_with (refine wpList_appI rfl (.tmp 102) (.tmp 104) rfl HA.out.i HSZ.out hYl _ 1 (k : Int) HO.out rfl rfl ?_)
              intro v' w' b1 b2 b3
              have h3 := HA.out.grown b2 b1 (by rw [size_allocD]; exact b3)
              obtain ⟨f, hf, _⟩ := HI.out.2.2.2.at_ k HK.out.2.1 HK.out.2.2
              have hcell := h3.n.cell k HK.out.1 f hf
              have hst := HI3.out.2.2.step HI.out.2.2.2 k HK.out.2.1 HK.out.2.2 hf
              have REL := Lib.hid (show Ord3 w1 w' p g v' ⟨W, 8, [1], c⟩ Wt (Y ++ [(k : Int)]) ∧ (∀ v ∈ Y ++ [(k : Int)], 1 ≤ v ∧ v ≤ 8) from ⟨h3, fun v hv => (List.mem_append.1 hv).elim (HI3.out.2.1 v) fun hv => by rw [List.mem_singleton.1 hv]; have := HK.out; omega⟩)
              clear b1 b2 b3 h3 hf
              by_cases h0 : fv = 0
              · subst h0
                rw [if_pos rfl] at hst
                have HST := Lib.hid hst
                clear hst
                go_wp2_with fail
                go_roundw
                case rel => exact ⟨i + 1, Y ++ [(k : Int)], f, by go_num, rfl, by omega, by simp; omega, Lib.hid ⟨REL.out.1, REL.out.2, HST.out⟩⟩
                case measure => simp [intOf]; omega
              · rw [if_neg h0] at hst
                have HST := Lib.hid hst
                have h0b : (fv == 0) = false := by rw [beq_eq_false_iff_ne]; exact h0
                clear hst
                go_wp2_with fail
                go_roundw
                case rel => exact ⟨i + 1, Y ++ [(k : Int)], fv, by go_num, rfl, by omega, by simp; omega, Lib.hid ⟨REL.out.1, REL.out.2, HST.out⟩⟩
                case measure => simp [intOf]; omega
            · have hltI2 : ¬ (i : Int) < (m1 : Int) := by omega
              have HI3 := Lib.hid hi.out
              clear hi
              obtain ⟨Ay, cy, hy, hty, hnil, hle⟩ := HI3.out.1.i.opened
              have hYi2 := hYi
              rw [hYi] at hy
              subst hy
              have hYI : (i : Int) ≤ 8 := by omega
              have hkn : (Di.mk W 8 [1] c).knows Y = true := Di.knows_yes fun t ht => by
                have := HI3.out.2.1 _ (List.getElem_mem ht)
                unfold Di.known
                simp
                omega
              have K1 := Lib.hid (HI3.out.1.d.setord_yes hty hYi.symm hnil (by omega) hkn)
              have HYI := Lib.hid hYi
              clear hty hle hYi2 hkn hYi
              go_wp2_with fail
              refine (K1.out).mono ?_
              rintro e w5 ⟨rfl, h5, k5⟩
              have o5 := HI3.out.1.turn h5 k5
              have O5 := Lib.hid o5
              have k2 := h5.order
              unfold Dui at k2
              rw [HYI.out] at k2
              have K2 := Lib.hid k2
              clear h5 k5 o5 k2
              go_wp2_with fail
              refine (K2.out).mono ?_
              rintro e w6 ⟨A6, c6, rfl, _, t6, _, h6, m6⟩
              have o6 := O5.out.far m6
              have O6 := Lib.hid o6
              have K3 := Lib.hid (ints_same (c := c6) (d := cy) t6 o6.i.at HYI.out.symm HYI.out.symm (by omega))
              clear t6 h6 m6 o6
              go_wp2_with fail
              refine (K3.out).mono ?_
              rintro e w7 ⟨rfl, m7⟩
              have o7 := O6.out.far m7
              have O7 := Lib.hid o7
              have k4 := o7.d.find uppN (by decide)
              obtain ⟨N, bb, hres⟩ := HI3.out.2.2.res
              rw [show findW (Di.mk W 8 Y c).W (Di.mk W 8 Y c).O uppN = findW W Y uppN from rfl, hres] at k4
              have K4 := Lib.hid (show Calls Try.prog 23 #[PtD p, .string { data := #[78, 65, 77, 69] }] w7 (Durs w1 p (g :: (Value.slice Ay i cy).ownBlock.toList) (.tuple #[.agg #[.string N, .int .i64 fv, .bool bb], .bool (decide (0 < fv))]) ⟨W, 8, Y, c⟩ w7) from k4)
              clear m7 o7 k4 hres
              go_wp2_with fail
              refine (K4.out).mono ?_
              rintro e w8 ⟨rfl, h8, m8⟩
              have O8 := Lib.hid (O7.out.far (m8.alloc (.cells #[.string N, .int .i64 fv, .bool bb] 49)))
              obtain ⟨n0', n1', n2'⟩ := ent_new w8 N fv bb
              have O9 := O8.out.far ((Mod.refl [] _).alloc (.cells #[.int .i64 9] 3))
              have lit := ints_lit (w8.alloc (.cells #[.string N, .int .i64 fv, .bool bb] 49)) 9
              rw [size_allocD] at lit
              have K5 := Lib.hid (O9.d.setord_no (A := some ⟨w8.heap.size + 1, 0, none⟩) (n := 1) (cap := 1) lit rfl (by simp) (by omega) (by
                have e : (Di.mk W 8 Y c).knows [9] = false := Di.knows_no 0 (by simp) (by unfold Di.known; simp)
                rw [e]
                simp))
              have O9 := Lib.hid O9
              clear h8 m8 lit
              by_cases hf : 0 < fv
              all_goals
                go_wp2_with fail
                refine (K5.out).mono ?_
                rintro e w10 ⟨rfl, h10, k10⟩
                have o10 := O9.out.turn h10 k10
                have hmk := make_nine w10
                have o11 := o10.far ((Mod.refl [] w10).alloc (.cells (intsV (List.replicate 9 0)).toArray 3))
                have K6 := Lib.hid (o11.d.setord_no (A := some ⟨w10.heap.size, 0, none⟩) (n := 9) (cap := 9) ((Nine.new w10).ints rfl) rfl (by simp) (by omega) (by simp))
                have O11 := Lib.hid o11
                clear h10 k10 o10 o11
                generalize w10.alloc (.cells (intsV (List.replicate 9 0)).toArray 3) = w11 at hmk K6 O11
                generalize w10.heap.size = g2 at hmk K6
                go_wp2_with fail
                refine (K6.out).mono ?_
                rintro e w12 ⟨rfl, h12, k12⟩
                have o12 := O11.out.turn h12 k12
                have O12 := Lib.hid o12
                have K7 := Lib.hid (o12.d.setcur_no 0 (by unfold Di.known; simp))
                clear h12 k12 o12 hmk
                go_wp2_with fail
                refine (K7.out).mono ?_
                rintro e w13 ⟨rfl, h13, k13⟩
                have o13 := O12.out.turn h13 k13
                have O13 := Lib.hid o13
                have k8 := o13.d.order
                unfold Dui at k8
                rw [show (Di.mk W 8 Y c).O.length = i from HYI.out] at k8
                have K8 := Lib.hid k8
                clear h13 k13 o13 k8
                go_wp2_with fail
                refine (K8.out).mono ?_
                rintro e w14 ⟨A14, c14, rfl, _, t14, _, h14, m14⟩
                have o14 := O13.out.far m14
                have K9 := Lib.hid (ints_same (c := c14) (d := cy) t14 o14.i.at HYI.out.symm HYI.out.symm (by omega))
                have M14 := Lib.hid (HM1.out.trans o14.d.m)
                clear t14 h14 m14 o14
                go_wp2_with fail
                refine (K9.out).mono ?_
                rintro e w15 ⟨rfl, m15⟩
                have M15 := Lib.hid (M14.out.trans m15)
                clear m15
                go_wp2_with fail
                go_ret
                exact ⟨rfl, M15.out⟩
end Go.Proofs.Ytldnpppbnakcoaa
