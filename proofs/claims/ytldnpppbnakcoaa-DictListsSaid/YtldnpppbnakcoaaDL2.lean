/- Layer 9: the walk of DictLists. No condition. -/
import Derived.Test.YtldnpppbnakcoaaDL1
namespace Go.Proofs.Ytldnpppbnakcoaa
open Go.RowKit
set_option linter.unusedVariables false

set_option maxHeartbeats 16000000 in
set_option maxRecDepth 100000 in
theorem lists_walk (w : World) (A0 : Option Addr) (n0 cap0 : Nat) (L0 : List ByteArray) (hn0 : n0 = L0.length) (hA0 : TxIn w A0 L0) (hc0 : n0 ≤ cap0) (hm0 : n0 ≤ 9223372036854775807) (A1 : Option Addr) (n1 cap1 : Nat) (z1 : List Int) (R1 : RowIn .u8 w A1 n1 cap1 z1) :
    Calls Try.prog 8 #[.slice A0 n0 cap0, .slice A1 n1 cap1] w fun e w' => e = .returned (.bool true) ∧ Mod [] w w' := by
  obtain ⟨l1, hl1, hA1⟩ := R1.bytes
  have hc1 := R1.le
  have hn1 : n1 ≤ 9223372036854775807 := by omega
  obtain ⟨m0, hmm0⟩ : ∃ m, m = min (min n0 n1) 20 := ⟨_, rfl⟩
  have hmin0 : min (min (n0 : Int) (n1 : Int)) 20 = (m0 : Int) := by omega
  have HUP0 := Lib.hid (fun W => texts_upto A0 n0 cap0 m0 (by omega) W)
  obtain ⟨m2, hmm2⟩ : ∃ m, m = min n0 20 := ⟨_, rfl⟩
  have hmin2 : min (n0 : Int) 20 = (m2 : Int) := by omega
  have HUP2 := Lib.hid (fun W => texts_upto A0 n0 cap0 m2 (by omega) W)
  have HL := Lib.hid (show m0 ≤ L0.length ∧ m0 ≤ l1.length ∧ m2 ≤ L0.length ∧ TxIn w A0 L0 ∧ LiesIn w A1 l1 from ⟨by omega, by omega, by omega, hA0, hA1⟩)
  have hm020 : m0 ≤ 20 := by omega
  have hm0n1 : m0 ≤ n1 := by omega
  clear R1 hl1 hA1 hc1 hn0 hA0 hc0 hmm0 hmm2
  have H0 := Lib.hid (shown_calls w)
  go_enter Try.func8, Try.ntmps8
  go_wp2_with fail
  refine (H0.out).mono ?_
  rintro e w1 ⟨rfl, hx⟩
  have HM1 := Lib.hid hx
  have H1 := Lib.hid (Pq.new2 w1)
  clear hx H0
  go_wp2_with fail
  refine (H1.out).mono ?_
  rintro e w2 ⟨p, rfl, h2, _⟩
  have B2 := Lib.hid (show Many 1 w1 w2 (fun _ => p) (fun _ => (⟨[], 0 + 1, [1], 1⟩ : Di)) [] from h2.ext1 rfl rfl)
  clear h2 H1
  go_wp2_with fail
  go_loopw [24] (fun z wr => ∃ (j : Nat), z = .int .i64 (j : Int) ∧ j ≤ 7 ∧ RowKit.Hid (Many 1 w1 wr (fun _ => p) (fun _ => (⟨[], j + 1, [1], 1⟩ : Di)) [])) (fun z _ => 7 - (intOf z).toNat)
  case atStart => exact ⟨0, rfl, by omega, B2⟩
  case round =>
    obtain ⟨j, rfl, hj7, hi⟩ := hrel
    by_cases hlt : j < 7
    · have hltI : (j : Int) < 7 := by omega
      have k1 := hi.out.of 0 (by omega) rfl rfl fun T g => plist_calls g
      rw [if_pos (show ((⟨[], j + 1, [1], 1⟩ : Di).k) < 8 by show j + 1 < 8; omega), if_pos (show ((⟨[], j + 1, [1], 1⟩ : Di).k) < 8 by show j + 1 < 8; omega)] at k1
      have K1 := Lib.hid k1
      clear k1 hi
      go_wp2_with fail
      refine (K1.out).mono ?_
      rintro e w3 ⟨rfl, h3, _⟩
      have H3 := Lib.hid (show Many 1 w1 w3 (fun _ => p) (fun _ => (⟨[], (j + 1) + 1, [1], 1⟩ : Di)) [] from h3.ext1 rfl rfl)
      clear h3
      go_wp2_with fail
      go_roundw
      case rel => exact ⟨j + 1, by go_num, by omega, H3⟩
      case measure => simp [intOf]; omega
    · have hltI : ¬ (j : Int) < 7 := by omega
      obtain rfl : j = 7 := by omega
      have H3 := Lib.hid hi.out
      clear hi
      have hmk := makeP_nine wr
      have N0 := Lib.hid (PRow.new wr)
      have B0 := Lib.hid (H3.out.more (V := [wr.heap.size]) (w' := wr.alloc (.cells (List.replicate 9 (Value.pointer none)).toArray 24)) ((Mod.refl [] wr).alloc _) (by simp))
      have hg0 := H3.out.m.size
      generalize hWW : wr.alloc (.cells (List.replicate 9 (Value.pointer none)).toArray 24) = W4 at hmk N0 B0
      obtain ⟨g, hg⟩ : ∃ g, g = wr.heap.size := ⟨_, rfl⟩
      rw [← hg] at hmk N0 B0 hg0
      clear hWW hg
      go_wp2_with fail
      clear hmk
      go_loopw [32] (fun z wr => ∃ (j : Nat) (P : Nat → Nat) (D : Nat → Di), z = .int .i64 (j : Int) ∧ j ≤ 9 ∧ RowKit.Hid (Many (j + 1) w1 wr P D [g] ∧ P 0 = p ∧ D 0 = ⟨[], 8, [1], 1⟩ ∧ (∀ i, i < j → D (i + 1) = one []) ∧ PRow wr g fun i => if i < j then PtD (P (i + 1)) else .pointer none)) (fun z _ => 9 - (intOf z).toNat)
      case atStart => exact ⟨0, fun _ => p, fun _ => ⟨[], 8, [1], 1⟩, rfl, by omega, Lib.hid ⟨B0.out, rfl, rfl, fun i hi => by omega, N0.out.ext fun i hi => by simp⟩⟩
      case round =>
        obtain ⟨j, P, D, rfl, hj9, hi⟩ := hrel
        by_cases hlt : j < 9
        · have hltI : (j : Int) < 9 := by omega
          have K1 := Lib.hid (many_new hi.out.1)
          have HI := Lib.hid hi.out
          clear hi
          go_wp2_with fail
          refine (K1.out).mono ?_
          rintro e w5 ⟨q, rfl, h5, m5⟩
          have r5 := HI.out.2.2.2.2.far m5
          have hcell := r5.c j hlt
          have hfree := r5.z j
          obtain ⟨r6, m6⟩ := r5.set j hlt (PtD q)
          have REL := Lib.hid (show Many (j + 1 + 1) w1 (w5.setCell ⟨g, j, none⟩ (PtD q)) (updD P (j + 1) q) (updD D (j + 1) (one [])) [g] ∧ updD P (j + 1) q 0 = p ∧ updD D (j + 1) (one []) 0 = ⟨[], 8, [1], 1⟩ ∧ (∀ i, i < j + 1 → updD D (j + 1) (one []) (i + 1) = one []) ∧ PRow (w5.setCell ⟨g, j, none⟩ (PtD q)) g fun i => if i < j + 1 then PtD (updD P (j + 1) q (i + 1)) else .pointer none from
            ⟨h5.store m6 (by simp) (by simpa using hg0), by rw [updD_ne _ _ (by omega)]; exact HI.out.2.1, by rw [updD_ne _ _ (by omega)]; exact HI.out.2.2.1, fun i hi => by
              by_cases e : i = j
              · rw [e, updD_at]
              · rw [updD_ne _ _ (by omega)]
                exact HI.out.2.2.2.1 i (by omega), r6.ext fun i hi => by
              by_cases e : i = j
              · rw [e, updD_at, if_pos (by omega), updD_at]
              · rw [updD_ne _ _ e, updD_ne _ _ (by omega)]
                by_cases e2 : i < j
                · rw [if_pos e2, if_pos (by omega)]
                · rw [if_neg e2, if_neg (by omega)]⟩)
          have hcell2 : w5.cell? ⟨g, j, none⟩ = some (.pointer none) := by rw [hcell, if_neg (by omega)]
          clear h5 m5 r5 hcell r6 m6
          go_wp2_with fail
          go_roundw
          case rel => exact ⟨j + 1, _, _, by go_num, by omega, REL⟩
          case measure => simp [intOf]; omega
        · have hltI : ¬ (j : Int) < 9 := by omega
          obtain rfl : j = 9 := by omega
          have HB := Lib.hid (show Many 10 w1 wr P (famD [] 1) [g] ∧ P 0 = p ∧ PRow wr g fun i => PtD (P (i + 1)) from
            ⟨hi.out.1.ext (fun _ _ => rfl) (fun i hi2 => by
              cases i with
              | zero => exact hi.out.2.2.1
              | succ i => exact hi.out.2.2.2.1 i (by omega)), hi.out.2.1, hi.out.2.2.2.2.ext fun i hi => by rw [if_pos hi]⟩)
          clear hi
          go_upto_region 15 with fail
          go_cut [46, 47, 48] (fun u v y wx => u = .slice A0 m0 cap0 ∧ v = .int .i64 (m0 : Int) ∧ y = .int .i64 0 ∧ wr = wx)
          case first =>
            by_cases q1 : (n0 : Int) ≤ (n1 : Int)
            · by_cases q2 : (n0 : Int) ≤ 20
              · obtain rfl : m0 = n0 := by omega
                have hup := HUP0.out
                go_wp2_with fail
                all_goals
                  go_meet
                  exact ⟨rfl, rfl, rfl, rfl⟩
              · obtain rfl : m0 = 20 := by omega
                have hup : ∀ W, (Instr.sliceAt 43 (.slice A0 n0 cap0) none (some (.int .i64 20)) none).run Try.prog W = .ok (.slice A0 20 cap0) W := HUP0.out
                go_wp2_with fail
                all_goals
                  go_meet
                  exact ⟨rfl, rfl, rfl, rfl⟩
            · by_cases q2 : (n1 : Int) ≤ 20
              · obtain rfl : m0 = n1 := by omega
                have hup := HUP0.out
                go_wp2_with fail
                all_goals
                  go_meet
                  exact ⟨rfl, rfl, rfl, rfl⟩
              · obtain rfl : m0 = 20 := by omega
                have hup : ∀ W, (Instr.sliceAt 43 (.slice A0 n0 cap0) none (some (.int .i64 20)) none).run Try.prog W = .ok (.slice A0 20 cap0) W := HUP0.out
                go_wp2_with fail
                all_goals
                  go_meet
                  exact ⟨rfl, rfl, rfl, rfl⟩
          case rest =>
            obtain ⟨rfl, rfl, rfl, rfl⟩ := hcut
            go_wp2_with fail
            go_loopw [48] (fun z wx => ∃ (j : Nat) (W : List We) (c : Int), z = .int .i64 (j : Int) ∧ j ≤ m0 ∧ W.length ≤ j ∧ 1 ≤ c ∧ RowKit.Hid (Many 10 w1 wx P (famD W c) [g] ∧ PRow wx g fun i => PtD (P (i + 1)))) (fun z _ => m0 - (intOf z).toNat)
            case atStart => exact ⟨0, [], 1, rfl, by omega, by simp, by omega, Lib.hid ⟨HB.out.1, HB.out.2.2⟩⟩
            case round =>
              obtain ⟨j, W, c, rfl, hjm, hWj, hc1, hi⟩ := hrel
              by_cases hlt2 : j < m0
              · have hltI2 : (j : Int) < (m0 : Int) := by omega
                have hltI3 : (j : Int) < (n1 : Int) := by omega
                have hjL : j < L0.length := by have := HL.out.1; omega
                have hjl : j < l1.length := by have := HL.out.2.1; omega
                have M := HM1.out.trans hi.out.1.m
                obtain ⟨x0, hAx, hc⟩ := (HL.out.2.2.2.1.mod M).cell j hjL
                have hsz := HL.out.2.2.2.1.size _ (List.getElem_mem hjL)
                obtain ⟨x1, hAx1, hcb⟩ := (HL.out.2.2.2.2.mod M) j hjl
                obtain ⟨S, hS⟩ : ∃ S, S = L0[j] := ⟨_, rfl⟩
                rw [← hS] at hc hsz
                obtain ⟨qn, hq⟩ : ∃ qn, qn = min S.size 31 := ⟨_, rfl⟩
                have hmin3 : min (S.size : Int) 31 = (qn : Int) := by omega
                have hqS : qn ≤ S.size := by omega
                obtain ⟨Y, hY⟩ : ∃ Y, S.extract 0 qn = Y := ⟨_, rfl⟩
                obtain ⟨cs, hcs⟩ : ∃ cs, cs = cutN 31 S := ⟨_, rfl⟩
                have hYc : Y = str cs := by
                  rw [← hY, hcs, ← cutN_min 31 S]
                  congr 1
                  show qn = (min (S.size : Int) 31).toNat
                  omega
                have hcl : cs.length ≤ 31 := by rw [hcs]; exact cutN_len 31 S
                have hnb := l1[j].toNat_lt
                obtain ⟨n, hn⟩ : ∃ n, n = l1[j].toNat := ⟨_, rfl⟩
                rw [← hn] at hcb hnb
                obtain ⟨b, hb⟩ : ∃ b, b = n % 8 := ⟨_, rfl⟩
                have hbI : (n : Int) % 8 = (b : Int) := by omega
                obtain ⟨k, hk⟩ : ∃ k, k = b + 1 := ⟨_, rfl⟩
                have hkI : (b : Int) + 1 = (k : Int) := by omega
                have hb8 : b < 8 := by omega
                have hkn : (k : Int) < 9 := by omega
                have HK := Lib.hid (show k < 9 ∧ 1 ≤ k ∧ k ≤ 8 by omega)
                have HC := Lib.hid (And.intro hYc hcl)
                have HI := Lib.hid hi.out
                subst hAx hAx1
                clear hi hS hq hcs hn hb hk M hYc hcl
                go_upto_region 18 with fail
                go_region
                all_goals
                  by_cases hc0 : cs.length = 0
                  · have hemp : Y.toList.isEmpty = true := by
                      rw [HC.out.1, List.eq_nil_of_length_eq_zero hc0, ByteArray.toList_eq]
                      rfl
                    have HE := Lib.hid (And.intro (HI.out.1.far (Mod.refl [] wr).drew) (HI.out.2.far (Mod.refl [] wr).drew))
                    clear hc0
                    go_wp2_with fail
                    go_roundw
                    case rel => exact ⟨j + 1, W, c, by go_num, by omega, by omega, hc1, HE⟩
                    case measure => simp [intOf]; omega
                  · have hemp : Y.toList.isEmpty = false := by rw [HC.out.1]; exact nonempty_str (by omega)
                    have hcs1 := Lib.hid (show 1 ≤ cs.length by omega)
                    have d0 := HI.out.1.far (Mod.refl [] wr).drew
                    have r0 := HI.out.2.far (Mod.refl [] wr).drew
                    have k1 := d0.of 0 (by omega) HB.out.2.1 (E := ⟨W, 8, [1], c⟩) rfl fun T g => psetcur_calls g (k : Int)
                    rw [show (⟨W, 8, [1], c⟩ : Di).known (k : Int) = true by unfold Di.known; have := HK.out; simp; omega] at k1
                    have K1 := Lib.hid (show Calls Try.prog 27 #[PtD p, .int .i64 (k : Int)] wr.drew (fun e w' => e = .returned (.int .i64 0) ∧ Many 10 w1 w' P (updD (famD W c) 0 ⟨W, 8, [1], (k : Int)⟩) [g] ∧ Keep [g] wr.drew w') from k1)
                    have R0 := Lib.hid r0
                    have hW20 : W.length ≤ 20 := by omega
                    clear d0 r0 k1 hc0
                    go_wp2_with fail
                    refine (K1.out).mono ?_
                    rintro e w5 ⟨rfl, h5, k5⟩
                    have k2 := h5.of 0 (by omega) HB.out.2.1 (E := ⟨W, 8, [1], (k : Int)⟩) rfl fun T g => padd_calls g cs (j : Int) (by have := HC.out.2; omega)
                    rw [show addR (⟨W, 8, [1], (k : Int)⟩ : Di) cs (j : Int) = (0, ⟨W ++ [⟨cs, (j : Int), false, (k : Int)⟩], 8, [1], (k : Int)⟩) by
                      unfold addR
                      rw [if_neg (by have := hcs1.out; omega), if_neg (by have := HC.out.2; omega), if_neg (show ¬ 2000 ≤ W.length by omega)], ← HC.out.1] at k2
                    have K2 := Lib.hid k2
                    have R5 := Lib.hid (R0.out.keep k5 (by simp))
                    clear h5 k5 k2 K1 R0
                    go_wp2_with fail
                    refine (K2.out).mono ?_
                    rintro e w6 ⟨rfl, h6, k6⟩
                    have r6 := R5.out.keep k6 (by simp)
                    have hcell := r6.c k HK.out.1
                    obtain ⟨pk, hpk⟩ : ∃ pk, pk = P (k + 1) := ⟨_, rfl⟩
                    rw [← hpk] at hcell
                    have hDk : updD (updD (famD W c) 0 ⟨W, 8, [1], (k : Int)⟩) 0 ⟨W ++ [⟨cs, (j : Int), false, (k : Int)⟩], 8, [1], (k : Int)⟩ (k + 1) = one (ownW W k) := by
                      rw [updD_ne _ _ (by omega), updD_ne _ _ (by omega)]
                      rfl
                    have k3 := h6.of (k + 1) (by have := HK.out; omega) hpk.symm hDk fun T g => padd_calls g cs (j : Int) (by have := HC.out.2; omega)
                    rw [addR_good _ cs (j : Int) hcs1.out HC.out.2 (by have := ownW_len W k; omega), ← HC.out.1] at k3
                    have K3 := Lib.hid k3
                    have R6 := Lib.hid r6
                    clear h6 k6 k3 r6 K2 R5 hDk hpk
                    go_wp2_with fail
                    refine (K3.out).mono ?_
                    rintro e w7 ⟨rfl, h7, k7⟩
                    have REL := Lib.hid (show Many 10 w1 w7 P (famD (W ++ [⟨cs, (j : Int), false, (k : Int)⟩]) (k : Int)) [g] ∧ PRow w7 g fun i => PtD (P (i + 1)) from ⟨h7.ext (fun _ _ => rfl) (fun i hi => by
                      cases i with
                      | zero => rfl
                      | succ i =>
                        by_cases e : i = k
                        · subst e
                          rw [updD_at]
                          show _ = one (ownW (W ++ [⟨cs, (j : Int), false, (i : Int)⟩]) i)
                          rw [ownW_snoc _ _ _ rfl]
                        · rw [updD_ne _ _ (by omega), updD_ne _ _ (by omega), updD_ne _ _ (by omega)]
                          show one (ownW W i) = one (ownW (W ++ [⟨cs, (j : Int), false, (k : Int)⟩]) i)
                          rw [ownW_other _ _ _ (by show (k : Int) ≠ (i : Int); omega)]), R6.out.keep k7 (by simp)⟩)
                    clear h7 k7 K3 R6
                    go_wp2_with fail
                    go_roundw
                    case rel => exact ⟨j + 1, _, (k : Int), by go_num, by omega, by simp; omega, by have := HK.out; omega, REL⟩
                    case measure => simp [intOf]; omega
              · have hltI2 : ¬ (j : Int) < (m0 : Int) := by omega
                have HI := Lib.hid hi.out
                have hW20 : W.length ≤ 20 := by omega
                clear hi
                go_wp2_with fail
                go_loopw [13] (fun z wx => ∃ (k : Nat), z = .int .i64 (k : Int) ∧ 1 ≤ k ∧ k ≤ 9 ∧ RowKit.Hid (Many 10 w1 wx P (famD W c) [g] ∧ PRow wx g fun i => PtD (P (i + 1)))) (fun z _ => 9 - (intOf z).toNat)
                case atStart => exact ⟨1, rfl, by omega, by omega, HI⟩
                case round =>
                  clear HI
                  obtain ⟨k, rfl, hk1, hk9, hi⟩ := hrel
                  by_cases hlt3 : k ≤ 8
                  · have hltI4 : (k : Int) ≤ 8 := by omega
                    have hkn : (k : Int) < 9 := by omega
                    have HK := Lib.hid (show k < 9 ∧ 1 ≤ k ∧ k ≤ 8 by omega)
                    have d0 := hi.out.1.far (Mod.refl [] wr).drew
                    have r0 := hi.out.2.far (Mod.refl [] wr).drew
                    have hcell := r0.c k (by omega)
                    obtain ⟨pk, hpk⟩ : ∃ pk, pk = P (k + 1) := ⟨_, rfl⟩
                    rw [← hpk] at hcell
                    obtain ⟨X, hX⟩ : ∃ X, X = namesW W (k : Int) := ⟨_, rfl⟩
                    obtain ⟨nx, hnx⟩ : ∃ nx, nx = X.length := ⟨_, rfl⟩
                    have hnx20 : nx ≤ 1000000000 := by rw [hnx, hX]; have := namesW_len W (k : Int); omega
                    have K1 := Lib.hid (d0.names 0 (by omega) HB.out.2.1 (k : Int) (X := X) (m := nx) hX.symm hnx)
                    have HX := Lib.hid (And.intro hX (And.intro hnx hpk))
                    have R0 := Lib.hid r0
                    clear hi d0 r0 hX hnx hpk
                    go_upto_region 25 with fail
                    go_region_held3 (fun V => V.cell? ⟨g, k, none⟩ = some (PtD pk)) (first | exact hcell | exact f1 | exact f2 | exact f3 | fail) (first
                      | ((with_reducible refine (K1.out).mono ?_); rintro e w5 ⟨A5, c5, rfl, t5, h5, m5⟩; have f1 := m5.cell (by simp) hcell; have K2 := Lib.hid (h5.names (k + 1) (by have := HK.out; omega) HX.out.2.2.symm 1 (X := X) (m := nx) ((names_own W k).trans HX.out.1.symm) HX.out.2.1); have T5 := Lib.hid (And.intro t5 (R0.out.far m5)); clear t5 h5 m5 K1 R0)
                      | ((with_reducible refine (K2.out).mono ?_); rintro e w6 ⟨A6, c6, rfl, t6, h6, m6⟩; have f2 := m6.cell (by simp) f1; have K3 := Lib.hid (texts_same (c := c5) (d := c6) (T5.out.1.far m6) t6 HX.out.2.1 HX.out.2.1 hnx20); have H6 := Lib.hid (And.intro h6 (T5.out.2.far m6)); clear t6 h6 m6 T5 K2)
                      | ((with_reducible refine (K3.out).mono ?_); rintro e w7 ⟨rfl, m7⟩; have f3 := m7.cell (by simp) f2; have H7 := Lib.hid (And.intro (H6.out.1.far m7) (H6.out.2.far m7)); clear m7 H6 K3)
                      | fail)
                    have hup := HUP2.out
                    clear hcell f1 f2 f3
                    go_wp2_with fail
                    clear hup
                    go_loopw [111] (fun z wx => ∃ (i : Nat), z = .int .i64 (i : Int) ∧ i ≤ m2 ∧ RowKit.Hid (Many 10 w1 wx P (famD W c) [g] ∧ PRow wx g fun i => PtD (P (i + 1)))) (fun z _ => m2 - (intOf z).toNat)
                    case atStart => exact ⟨0, rfl, by omega, H7⟩
                    case round =>
                      clear H7
                      obtain ⟨i, rfl, him, hi⟩ := hrel
                      by_cases hlt5 : i < m2
                      · have hltI5 : (i : Int) < (m2 : Int) := by omega
                        have hjL : i < L0.length := by have := HL.out.2.2.1; omega
                        obtain ⟨x0, hAx, hc⟩ := (HL.out.2.2.2.1.mod (HM1.out.trans hi.out.1.m)).cell i hjL
                        have hsz := HL.out.2.2.2.1.size _ (List.getElem_mem hjL)
                        obtain ⟨S, hS⟩ : ∃ S, S = L0[i] := ⟨_, rfl⟩
                        rw [← hS] at hc hsz
                        obtain ⟨N, ex, nb, nis, hres⟩ := resE_is (inW W (k : Int) S.data.toList)
                        have hsl : S.data.toList.length ≤ 9223372036854775807 := by rw [Array.length_toList]; exact hsz
                        have k1 := hi.out.1.tells 0 (by omega) HB.out.2.1 (E := ⟨W, 8, [1], c⟩) rfl fun T g => pin_calls g (k : Int) S.data.toList hsl
                        rw [← str_back S, show resE (inW (⟨W, 8, [1], c⟩ : Di).W (k : Int) S.data.toList) = _ from hres] at k1
                        have K1 := Lib.hid k1
                        have HV := Lib.hid (And.intro hres hsl)
                        have HI := Lib.hid hi.out
                        subst hAx
                        clear hi hS hres hsl k1
                        go_wp2_with fail
                        refine (K1.out).mono ?_
                        rintro e w8 ⟨rfl, h8, m8⟩
                        obtain ⟨n0', n1', n2'⟩ := ent_new w8 N ex nb
                        have m9 := m8.alloc (.cells #[.string N, .int .i64 ex, .bool nb] 49)
                        have r9 := HI.out.2.far m9
                        have hcell := r9.c k HK.out.1
                        rw [← HX.out.2.2] at hcell
                        have h9 := h8.far ((Mod.refl [] w8).alloc (.cells #[.string N, .int .i64 ex, .bool nb] 49))
                        have k2 := h9.tells (k + 1) (by have := HK.out; omega) HX.out.2.2.symm (E := one (ownW W k)) rfl fun T g => pfind_calls g S.data.toList HV.out.2
                        rw [← str_back S, show findW (one (ownW W k)).W (one (ownW W k)).O S.data.toList = findW (ownW W k) [1] S.data.toList from rfl, find_own, HV.out.1] at k2
                        have K2 := Lib.hid k2
                        have R9 := Lib.hid r9
                        clear h8 m8 m9 r9 h9 k2 K1
                        go_wp2_with fail
                        refine (K2.out).mono ?_
                        rintro e w10 ⟨rfl, h10, m10⟩
                        have a0 := (m10.alloc (.cells #[.string N, .int .i64 ex, .bool nb] 49)).cell (by simp) n0'
                        have a1 := (m10.alloc (.cells #[.string N, .int .i64 ex, .bool nb] 49)).cell (by simp) n1'
                        have a2 := (m10.alloc (.cells #[.string N, .int .i64 ex, .bool nb] 49)).cell (by simp) n2'
                        obtain ⟨e0, e1, e2⟩ := ent_new w10 N ex nb
                        have H11 := Lib.hid (And.intro (h10.far ((Mod.refl [] w10).alloc (.cells #[.string N, .int .i64 ex, .bool nb] 49))) (R9.out.far (m10.alloc (.cells #[.string N, .int .i64 ex, .bool nb] 49))))
                        clear h10 m10 K2 n0' n1' n2' hcell R9 HI
                        go_wp2_with fail
                        go_roundw
                        case rel => exact ⟨i + 1, by go_num, by omega, H11⟩
                        case measure => simp [intOf]; omega
                      · have hltI5 : ¬ (i : Int) < (m2 : Int) := by omega
                        have HI := Lib.hid hi.out
                        clear hi
                        go_wp2_with fail
                        go_roundw
                        case rel => exact ⟨k + 1, by go_num, by omega, by omega, HI⟩
                        case measure => simp [intOf]; omega
                  · have hltI4 : ¬ (k : Int) ≤ 8 := by omega
                    have K1 := Lib.hid (show Calls Try.prog 14 #[PtD p] wr (fun e w' => e = .returned (.int .i64 c) ∧ Many 10 w1 w' P (famD W c) [g] ∧ Mod [] wr w') from hi.out.1.tells 0 (by omega) HB.out.2.1 (E := ⟨W, 8, [1], c⟩) rfl fun T g => pcurrent_calls g)
                    clear hi
                    go_wp2_with fail
                    refine (K1.out).mono ?_
                    rintro e w8 ⟨rfl, h8, m8⟩
                    have H8 := Lib.hid (HM1.out.trans h8.m)
                    clear h8 m8 K1
                    go_wp2_with fail
                    go_ret
                    exact ⟨by simp, H8.out⟩
end Go.Proofs.Ytldnpppbnakcoaa
