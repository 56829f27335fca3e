/- The document's answers for layer 4: the number that a text is. Condition: the text has at most 1000 bytes. -/
import Derived.Test.YthmdobajilladaaDoorJZ
import Derived.Deep.Cut
import Derived.Deep.DeepCutAuto
namespace Go.Proofs.YthmdobajilladaaDoor
open Go.RowKit
set_option linter.unusedVariables false
open Ieee (double)

theorem minus_at (l : List UInt8) (h : 0 < (bs l).size) : ((((bs l)[0]'h).toNat : Int) == 45) = isMinus l :=
  bs_is l 0 h 45 (isMinus l) (by unfold isMinus; rw [List.head?_eq_getElem?])
theorem minus_nil (l : List UInt8) (h : ¬ 0 < (bs l).size) : isMinus l = false := by
  rw [size_list] at h
  obtain rfl : l = [] := List.eq_nil_of_length_eq_zero (by omega)
  rfl
theorem minus_cut (l : List UInt8) (h : isMinus l = true) : (bs l).extract 1 (bs l).size = bs (unMinus l) := by
  rw [bs_drop]
  unfold unMinus
  rw [if_pos h, List.drop_one]
theorem minus_not (l : List UInt8) (h : isMinus l = false) : unMinus l = l := by
  unfold unMinus
  rw [h]; rfl
theorem minus_pos (l : List UInt8) (h : isMinus l = true) : 0 < (bs l).size := by
  refine Nat.lt_of_not_le fun q => ?_
  rw [minus_nil l (by omega)] at h
  cases h
theorem whole_a (l : List UInt8) (hl : l.length ≤ 1000) (w : World) : Calls Tryd.prog 27 #[.string (bs l), .int .i64 16] w fun e w' => e = .returned (.tuple #[.int .i64 (lo ((acc 10 0 l).1 : Int)), .bool (digs l 16).isSome]) ∧ Ext w w' := rwhole4 l hl 16 (by decide) w
theorem whole_b (l : List UInt8) (hl : l.length ≤ 1000) (w : World) : Calls Tryd.prog 27 #[.string (bs l), .int .i64 4] w fun e w' => e = .returned (.tuple #[.int .i64 (lo ((acc 10 0 l).1 : Int)), .bool (digs l 4).isSome]) ∧ Ext w w' := rwhole4 l hl 4 (by decide) w
theorem digs_lo {l : List UInt8} {k u : Nat} (hk : k ≤ 16) (h : digs l k = some u) : lo ((acc 10 0 l).1 : Int) = (u : Int) ∧ u < 10 ^ k := by
  have h2 := (parse_some hk h).2.2
  have h3 : u < 10000000000000000 := Nat.lt_of_lt_of_le h2 (Nat.le_trans (Nat.pow_le_pow_right (by decide) hk) (by decide))
  rw [acc_digs l k u hk h]
  exact ⟨lo_small u (by omega), h2⟩
theorem cell_i64 (x : Nat) : I64 (cellOf x) := by
  unfold cellOf
  split
  · unfold I64; omega
  · exact i64_wrap _
theorem par_small (u : Nat) (h : u ≤ 9007199254740992) : Par (u : Int) 0 u := by
  refine ⟨by omega, (lo_small u (by omega)).symm, ?_⟩
  unfold Go.Proofs.YthmdobajilladaaDoor.hi wrap64
  omega
/-- A text, its sign, and what is behind it. -/
structure Sgn (l : List UInt8) (m : Bool) (t t1 : ByteArray) : Prop where
  s : t = bs l
  s1 : t1 = bs (unMinus l)
  i : m = isMinus l
  no : ¬ 0 < t.size → m = false
  at0 : ∀ h : 0 < t.size, (((t[0]'h).toNat : Int) == 45) = m
  cut : m = true → 0 < t.size ∧ t.extract 1 t.size = t1
  keep : m = false → t = t1
theorem sgn_of (l : List UInt8) : ∃ m t t1, Sgn l m t t1 :=
  ⟨_, _, _, rfl, rfl, rfl, minus_nil l, minus_at l, fun h => ⟨minus_pos l h, minus_cut l h⟩, fun h => by rw [minus_not l h]⟩
theorem pair_res {R : Int × Bool} {x : Int} {b : Bool} (h : R = (x, b)) : Ending.returned (.tuple #[.int .i64 x, .bool b]) = Ending.returned (.tuple #[.int .i64 R.1, .bool R.2]) := by rw [h]
theorem str_res {t u : ByteArray} (h : t = u) : Value.string t = Value.string u := by rw [h]
set_option maxRecDepth 100000 in
set_option maxHeartbeats 4000000 in
theorem rnumber4 (l : List UInt8) (hl : l.length ≤ 1000) (w : World) :
    Calls Tryd.prog 10 #[.string (bs l)] w fun e w' => e = .returned (.tuple #[.int .i64 (numR l).1, .bool (numR l).2]) ∧ Ext w w' := by
  have hlen := unMinus_len l
  obtain ⟨m, t, t1, hsg⟩ := sgn_of l
  obtain ⟨l1, hl1⟩ : ∃ x, x = unMinus l := ⟨_, rfl⟩
  obtain ⟨R, hR⟩ : ∃ R, R = numR l := ⟨_, rfl⟩
  have HLEN : RowKit.Hid (l1.length ≤ 1000) := Lib.hid (by rw [hl1]; omega)
  have hz1 : t1.size ≤ 1000 := by rw [hsg.s1, size_list]; omega
  have HT1 : RowKit.Hid (t1 = bs l1) := Lib.hid (by rw [hsg.s1, hl1])
  rw [← hR, ← hsg.s]
  have SG := Lib.hid hsg
  have HL1 := Lib.hid hl1
  have HRR := Lib.hid hR
  clear hsg hl1 hR hlen hl
  go_enter Tryd.func10, Tryd.ntmps10
  go_upto_region 1 with fail
  go_cut [4] (fun u wx => u = .bool m ∧ w = wx)
  case first =>
    by_cases h0 : 0 < t.size
    · have hb := SG.out.at0 h0
      have hi : (0 : Int) < (t.size : Int) := by omega
      go_wp2_with fail
      go_meet
      exact ⟨rfl, rfl⟩
    · have e := SG.out.no h0
      subst e
      go_wp2_with fail
      go_meet
      exact ⟨rfl, rfl⟩
  case rest =>
    obtain ⟨rfl, rfl⟩ := hcut
    go_upto_if 22 with fail
    go_cut [0] (fun u wx => u = .string t1 ∧ w = wx)
    case first =>
      cases m
      · have e := SG.out.keep rfl
        go_wp2_with fail
        go_meet
        exact ⟨str_res e, rfl⟩
      · obtain ⟨h0, e⟩ := SG.out.cut rfl
        have hi : (1 : Int) ≤ (t.size : Int) := by omega
        go_wp2_with fail
        go_meet
        exact ⟨rfl, rfl⟩
    case rest =>
      obtain ⟨rfl, rfl⟩ := hcut
      go_wp2_with fail
      go_loop [5] (fun i => ∃ k : Nat, k ≤ t1.size ∧ i = .int .i64 (k : Int) ∧ RowKit.Hid (∀ j, j < k → l1[j]? ≠ some 112)) (fun i => t1.size - (intOf i).toNat)
      case atStart => exact ⟨0, by omega, rfl, Lib.hid (fun j hj => by omega)⟩
      case round =>
        obtain ⟨k, hk, rfl, hno⟩ := hrel
        have hi1 : (t1.size : Int) ≤ 1000 := by omega
        by_cases hlt : k < t1.size
        · have hat : ∀ (c : UInt8) (b : Bool), (l1[k]? == some c) = b → ((((t1[k]'hlt).toNat : Nat) : Int) == ((c.toNat : Nat) : Int)) = b := fun c b hb => by
            have e := HT1.out
            subst e
            exact bs_is l1 k hlt c b hb
          by_cases hp : l1[k]? = some 112
          · have h1 : (((t1[k]'hlt).toNat : Int) == 112) = true := hat 112 true (by rw [beq_iff_eq]; exact hp)
            have h2 : (((t1[k]'hlt).toNat : Int) != 112) = false := by unfold bne; rw [h1]; rfl
            have hkq : ((k : Int) == (t1.size : Int)) = false := by rw [beq_eq_false_iff_ne]; omega
            have hspl := spl_at l1 k hno.out hp
            have HNA : RowKit.Hid (numA l = l1.take k) := Lib.hid (by unfold numA; rw [← HL1.out, hspl])
            have HNB : RowKit.Hid (numB l = l1.drop (k + 1)) := Lib.hid (by unfold numB; rw [← HL1.out, hspl])
            have xA : t1.extract 0 k = bs (l1.take k) := by rw [HT1.out, bs_take]
            have xD : t1.extract (k + 1) t1.size = bs (l1.drop (k + 1)) := by rw [HT1.out, bs_drop]
            obtain ⟨A, hA⟩ : ∃ A, A = l1.take k := ⟨_, rfl⟩
            obtain ⟨D, hD⟩ : ∃ D, D = l1.drop (k + 1) := ⟨_, rfl⟩
            rw [← hA] at HNA xA
            rw [← hD] at HNB xD
            have lA : A.length ≤ 1000 := by rw [hA, List.length_take]; have := HLEN.out; omega
            have lD : D.length ≤ 1000 := by rw [hD, List.length_drop]; have := HLEN.out; omega
            have lD1 : (unMinus D).length ≤ 1000 := Nat.le_trans (unMinus_len D) lD
            obtain ⟨m2, tD, t2, hsg2⟩ := sgn_of D
            rw [← hsg2.s] at xD
            obtain ⟨tA, htA⟩ : ∃ tA, tA = bs A := ⟨_, rfl⟩
            rw [← htA] at xA
            obtain ⟨a1, ha1⟩ : ∃ a, a = lo ((acc 10 0 A).1 : Int) := ⟨_, rfl⟩
            obtain ⟨ok1, hok1⟩ : ∃ a, a = (digs A 16).isSome := ⟨_, rfl⟩
            obtain ⟨a2, ha2⟩ : ∃ a, a = lo ((acc 10 0 (unMinus D)).1 : Int) := ⟨_, rfl⟩
            obtain ⟨ok2, hok2⟩ : ∃ a, a = (digs (unMinus D) 4).isSome := ⟨_, rfl⟩
            have cA := fun W => whole_a A lA W
            have cB := fun W => whole_b (unMinus D) lD1 W
            rw [← htA, ← ha1, ← hok1] at cA
            rw [← hsg2.s1, ← ha2, ← hok2] at cB
            have CA := Lib.hid cA
            have CB := Lib.hid cB
            have SG2 := Lib.hid hsg2
            have HA1 := Lib.hid ha1
            have HA2 := Lib.hid ha2
            have HO1 := Lib.hid hok1
            have HO2 := Lib.hid hok2
            have I2 : RowKit.Hid (I64 a2) := Lib.hid (by rw [ha2]; exact i64_wrap _)
            clear hat hp hno hspl hA hD lA lD lD1 hsg2 htA ha1 hok1 ha2 hok2 cA cB HT1 HL1 HLEN
            go_wp2_with fail
            refine (CA.out _).mono ?_
            rintro e w1 ⟨rfl, hx1⟩
            have HX1 := Lib.hid hx1
            clear hx1 h1 h2 hkq xA CA
            go_upto_region 11 with fail
            go_cut [9] (fun u wx => u = .bool m2 ∧ w1 = wx)
            case first =>
              clear xD
              by_cases h0 : 0 < tD.size
              · have hb := SG2.out.at0 h0
                have hi : (0 : Int) < (tD.size : Int) := by omega
                go_wp2_with fail
                go_meet
                exact ⟨rfl, rfl⟩
              · have e := SG2.out.no h0
                subst e
                go_wp2_with fail
                go_meet
                exact ⟨rfl, rfl⟩
            case rest =>
              obtain ⟨rfl, rfl⟩ := hcut
              clear xD
              go_upto_if 60 with fail
              go_cut [8] (fun u wx => u = .string t2 ∧ w1 = wx)
              case first =>
                cases m2
                · have e := SG2.out.keep rfl
                  go_wp2_with fail
                  go_meet
                  exact ⟨str_res e, rfl⟩
                · obtain ⟨h0, e⟩ := SG2.out.cut rfl
                  have hi : (1 : Int) ≤ (tD.size : Int) := by omega
                  go_wp2_with fail
                  go_meet
                  exact ⟨rfl, rfl⟩
              case rest =>
                obtain ⟨rfl, rfl⟩ := hcut
                go_wp2_with fail
                refine (CB.out _).mono ?_
                rintro e w2 ⟨rfl, hx2⟩
                have HX2 := Lib.hid (HX1.out.trans hx2)
                clear hx2 HX1 CB
                obtain ⟨P, hP⟩ : ∃ P, P = (if m2 then wrap64 (-a2) else a2) := ⟨_, rfl⟩
                have HPP := Lib.hid hP
                clear hP
                go_upto_if 68 with fail
                go_cut [10] (fun u wx => u = .int .i64 P ∧ w2 = wx)
                case first =>
                  cases m2
                  · have e : P = a2 := HPP.out
                    subst e
                    go_wp2_with fail
                    go_meet
                    exact ⟨rfl, rfl⟩
                  · have e : P = wrap64 (-a2) := HPP.out
                    go_wp2_with fail
                    go_meet
                    exact ⟨v_i64 (by rw [e]), rfl⟩
                case rest =>
                  obtain ⟨rfl, rfl⟩ := hcut
                  cases hA : digs A 16 with
                  | none =>
                    have e0 : ok1 = false := by rw [HO1.out, hA]; rfl
                    subst e0
                    have HE := Lib.hid (show R = (0, false) by rw [HRR.out]; exact numR_badA l (by rw [HNA.out]; exact hA))
                    clear hA
                    go_wp2
                    go_ret2
                    exact ⟨pair_res HE.out, HX2.out⟩
                  | some u =>
                    obtain ⟨q1, q2⟩ := digs_lo (by decide) hA
                    have e1 : a1 = (u : Int) := by rw [HA1.out]; exact q1
                    have e0 : ok1 = true := by rw [HO1.out, hA]; rfl
                    subst e0 e1
                    cases hB : digs (unMinus D) 4 with
                    | none =>
                      have e0 : ok2 = false := by rw [HO2.out, hB]; rfl
                      subst e0
                      have HE := Lib.hid (show R = (0, false) by rw [HRR.out]; exact numR_badB l (by rw [HNB.out]; exact hB))
                      clear hA hB q1 q2
                      go_wp2
                      go_ret2
                      exact ⟨pair_res HE.out, HX2.out⟩
                    | some v =>
                      obtain ⟨q3, q4⟩ := digs_lo (by decide) hB
                      have e1 : a2 = (v : Int) := by rw [HA2.out]; exact q3
                      have e0 : ok2 = true := by rw [HO2.out, hB]; rfl
                      subst e0 e1
                      have q5 : u < 10000000000000000 := by simpa using q2
                      have q6 : v < 10000 := by simpa using q4
                      have hPv : P = numP l v := by
                        rw [HPP.out, SG2.out.i]
                        unfold numP
                        rw [HNB.out]
                        split
                        · exact wrap_id (by unfold I64; omega)
                        · rfl
                      have huw : IntKind.u64.wrap (u : Int) = (u : Int) := by rw [IntKind.wrap_u64]; omega
                      have hNA : digs (numA l) 16 = some u := by rw [HNA.out]; exact hA
                      have hNB : digs (unMinus (numB l)) 4 = some v := by rw [HNB.out]; exact hB
                      by_cases hbig : u ≤ 9007199254740992
                      · by_cases h0 : u = 0
                        · subst h0
                          have HE := Lib.hid (show R = (cellOf (double.word m 0), true) by rw [HRR.out, SG.out.i]; exact numR_zero l hNA hNB)
                          have HS := Lib.hid (rsigned4 m 0 (by decide) (by decide) w2)
                          have HV := Lib.hid (show wrap64 (if m then (0 : Int) + 9223372036854775808 else 0) = cellOf (double.word m 0) by cases m <;> decide +kernel)
                          clear hA hB q1 q2 q3 q4 hPv hNA hNB hbig
                          go_wp2_with fail
                          refine (HS.out).mono ?_
                          rintro e w3 ⟨rfl, rfl⟩
                          rw [HV.out]
                          go_wp2_with fail
                          go_ret2
                          exact ⟨pair_res HE.out, HX2.out⟩
                        · have hPb : -10000 ≤ P ∧ P ≤ 10000 := by rw [hPv]; unfold numP; split <;> omega
                          have HE := Lib.hid (show R = if okF u P then (cellOf (cutR m (topF u P)), true) else (0, false) by rw [HRR.out, SG.out.i, hPv]; exact numR_top l hNA hNB hbig h0)
                          obtain ⟨r, hr, hw⟩ := top_form m u P
                          have HRO := Lib.hid (fun W => rrounded m u h0 hbig P hPb (u : Int) 0 (par_small u hbig) W)
                          rw [hw] at HRO HE
                          have hfb : fbits (cellOf (double.word m r)) = double.word m r := fbits_cell (by rw [word_d]; split <;> omega) (isN_word m hr)
                          have hfI := cell_i64 (double.word m r)
                          obtain ⟨f, hf⟩ : ∃ f, f = cellOf (double.word m r) := ⟨_, rfl⟩
                          rw [← hf] at HRO HE hfb hfI
                          have hOP : ∃ (K M E : Int), (∀ W, Calls Tryd.prog 30 #[.int .i64 f] W fun e w' => e = .returned (.agg #[.int .i64 K, .bool m, .int .u64 M, .int .i64 E]) ∧ Ext W w') ∧
                              ((r = 9218868437227405312 ∧ K = 1 ∧ M = 0 ∧ E = 0) ∨ (r < 9218868437227405312 ∧ K = 2 ∧ M = (rM r : Int) ∧ E = rE r)) := by
                            by_cases hi : r = 9218868437227405312
                            · subst hi
                              exact ⟨1, 0, 0, fun W => ropen_winf f hfI m hfb W, Or.inl ⟨rfl, rfl, rfl, rfl⟩⟩
                            · exact ⟨2, _, _, fun W => ropen_word f hfI m r hfb (by omega) W, Or.inr ⟨by omega, rfl, rfl, rfl⟩⟩
                          obtain ⟨K, M, E, hO, hK⟩ := hOP
                          have HO := Lib.hid hO
                          have HK := Lib.hid hK
                          have HW := Lib.hid hw
                          have H0 := Lib.hid h0
                          have HBIG := Lib.hid hbig
                          have HPB := Lib.hid hPb
                          have u0 : ((u : Int) == 0) = false := by rw [beq_eq_false_iff_ne]; omega
                          clear hA hB q1 q2 q3 q4 q5 q6 hPv hNA hNB hO hK hw h0 hPb hfb hfI hf hr HPP HRR HNA HNB HA1 HA2 HO1 HO2 I2 SG SG2
                          go_wp2_with fail
                          refine (HRO.out _).mono ?_
                          rintro e w3 ⟨rfl, hx3⟩
                          have HX3 := Lib.hid (HX2.out.trans hx3)
                          clear hx3 HX2 HRO
                          go_wp2_with fail
                          refine (HO.out _).mono ?_
                          rintro e w4 ⟨rfl, hx4⟩
                          have hX4 := HX3.out.trans hx4
                          have o := Own4.last (X := w4) (k := Value.int .i64 K) (n := Value.bool m) (m := Value.int .u64 M) (e := Value.int .i64 E) (t := 58)
                          have HX5 := Lib.hid (hX4.cells #[Value.int .i64 K, Value.bool m, Value.int .u64 M, Value.int .i64 E] 58)
                          have HSZ := Lib.hid hX4.1.size
                          have HOW := Lib.hid o
                          clear hx4 hX4 HX3 HO o u0
                          go_wp2_with fail
                          go_loop [6, 10] (fun a b => ∃ (N : Nat) (F : Int), HalfInv u P N F ∧ a = .int .i64 (N : Int) ∧ b = .int .i64 F) (fun a _ => (intOf a).toNat)
                          case atStart => exact ⟨u, P, HalfInv.start H0.out, rfl, rfl⟩
                          case round =>
                            obtain ⟨N, F, hi, rfl, rfl⟩ := hrel
                            have bd := hi.bd HBIG.out
                            have le := hi.le
                            have nz := hi.ne
                            have N1 := nat_low N
                            have N2 : (N : Int) ≤ 9007199254740992 := by have := HBIG.out; omega
                            have F1 : -10000 ≤ F := by have := HPB.out; omega
                            have F2 : F ≤ 10060 := by have := HPB.out; omega
                            have HI := Lib.hid hi
                            clear hi bd le huw
                            by_cases hz : N % 2 = 0
                            · have ht := half_test (N := N) true (by rw [hz]; rfl)
                              obtain ⟨i2, il⟩ := HI.out.step hz
                              have HI2 := Lib.hid i2
                              have HL := Lib.hid il
                              clear hz i2 il
                              obtain ⟨q, hq⟩ : ∃ q : Nat, q = N / 2 := ⟨_, rfl⟩
                              have eq2 : (N : Int) / 2 = (q : Int) := by rw [hq]; rfl
                              have q0 := nat_low q
                              rw [← hq] at HI2 HL
                              clear hq nz
                              go_wp2
                              go_round
                              case rel => exact ⟨q, _, HI2.out, rfl, rfl⟩
                              case measure =>
                                have h2 := HL.out
                                simp [intOf]
                                omega
                            · have ht := half_test (N := N) false (by rw [beq_eq_false_iff_ne]; exact hz)
                              have HZ := Lib.hid hz
                              have hw64 : IntKind.u64.wrap (N : Int) = (N : Int) := by rw [IntKind.wrap_u64]; omega
                              have n0 : ((N : Int) == 0) = false := by rw [beq_eq_false_iff_ne]; omega
                              have n1 : ((0 : Int) == (N : Int)) = false := by rw [beq_eq_false_iff_ne]; omega
                              have n2 : ((0 : Int) != (N : Int)) = true := by unfold bne; rw [n1]; rfl
                              clear hz nz
                              rcases HK.out with ⟨hr, rfl, rfl, rfl⟩ | ⟨hr, rfl, hM, hE⟩
                              · have hno := zero_no m H0.out HBIG.out (Or.inr hr) HW.out
                                have HE2 := Lib.hid (show R = (0, false) by rw [HE.out, hno]; rfl)
                                clear hr hno HE
                                go_wp2_with fail
                                go_loopw [114] (fun _ wr => Own4 wr w4.heap.size (.int .i64 1) (.bool m) (.int .u64 0) (.int .i64 0) ∧ Ext w wr) (fun _ _ => 0)
                                case atStart => exact ⟨HOW.out, HX5.out⟩
                                case round =>
                                  obtain ⟨p, hx⟩ := hrel
                                  have c0 := p.c0
                                  go_wp2
                                  go_ret2
                                  exact ⟨pair_res HE2.out, hx⟩
                              · by_cases hr0 : r = 0
                                · have hm0 : M = 0 := by rw [hM, hr0]; rfl
                                  subst hm0
                                  have hno := zero_no m H0.out HBIG.out (Or.inl hr0) HW.out
                                  have HE2 := Lib.hid (show R = (0, false) by rw [HE.out, hno]; rfl)
                                  clear hr hno HE hM hE hr0
                                  go_wp2_with fail
                                  go_loopw [114] (fun _ wr => Own4 wr w4.heap.size (.int .i64 2) (.bool m) (.int .u64 0) (.int .i64 E) ∧ Ext w wr) (fun _ _ => 0)
                                  case atStart => exact ⟨HOW.out, HX5.out⟩
                                  case round =>
                                    obtain ⟨p, hx⟩ := hrel
                                    have c0 := p.c0
                                    have c2 := p.c2
                                    have c3 := p.c3
                                    go_wp2
                                    go_ret2
                                    exact ⟨pair_res HE2.out, hx⟩
                                · have SAME := Lib.hid (fun N' F' (b : HalfInv (rM r) (rE r) N' F') (o' : ¬ N' % 2 = 0) => same_odd m H0.out HBIG.out hr HW.out HI.out b HZ.out o')
                                  have hM0 : rM r ≠ 0 := by
                                    intro q
                                    have hb := nM_bd hr0 hr
                                    have : nM r = 0 := by unfold nM; rw [q, Nat.zero_mul]
                                    omega
                                  have hMl := (rung_can hr).lt
                                  have hE1 := (rung_can hr).lo
                                  have hE2 := (rung_can hr).hi
                                  subst hM hE
                                  clear hr hr0 HK HW
                                  generalize rM r = M2 at *
                                  generalize rE r = E2 at *
                                  have HB := Lib.hid (And.intro hM0 (And.intro hMl (And.intro hE1 hE2)))
                                  clear hM0 hMl hE1 hE2
                                  go_wp2_with fail
                                  go_loopw [114] (fun _ wr => ∃ (N' : Nat) (F' : Int), HalfInv M2 E2 N' F' ∧ Own4 wr w4.heap.size (.int .i64 2) (.bool m) (.int .u64 (N' : Int)) (.int .i64 F') ∧ Ext w wr) (fun _ wr => celN (wr.cell? ⟨w4.heap.size, 2, none⟩))
                                  case atStart => exact ⟨M2, E2, HalfInv.start HB.out.1, HOW.out, HX5.out⟩
                                  case round =>
                                    obtain ⟨N', F', i, p, hx⟩ := hrel
                                    have bd' := i.bd (by have := HB.out.2.1; omega)
                                    have le' := i.le
                                    have nz' := i.ne
                                    have N1' := nat_low N'
                                    have N2' : ((N' : Nat) : Int) < 9007199254740992 := by have := HB.out; omega
                                    have F1' : -1074 ≤ F' := by have := HB.out; omega
                                    have F2' : F' ≤ 1031 := by have := HB.out; omega
                                    have HI' := Lib.hid i
                                    clear i bd' le'
                                    have c0 := p.c0
                                    have c2 := p.c2
                                    have c3 := p.c3
                                    have f2 := p.f2
                                    have f3 := p.f3
                                    have lt := p.lt
                                    have nn0 : ((N' : Int) == 0) = false := by rw [beq_eq_false_iff_ne]; omega
                                    have nn1 : ((N' : Int) != 0) = true := by unfold bne; rw [nn0]; rfl
                                    by_cases hz : N' % 2 = 0
                                    · have ht' := half_test (N := N') true (by rw [hz]; rfl)
                                      obtain ⟨i2, il⟩ := HI'.out.step hz
                                      have HI2 := Lib.hid i2
                                      have HL := Lib.hid il
                                      clear hz i2 il nz'
                                      obtain ⟨q, hq⟩ : ∃ q : Nat, q = N' / 2 := ⟨_, rfl⟩
                                      have eq2 : (N' : Int) / 2 = (q : Int) := by rw [hq]; rfl
                                      have q0 := nat_low q
                                      rw [← hq] at HI2 HL
                                      clear hq
                                      go_wp2_with fail
                                      go_roundw
                                      case rel => exact ⟨q, _, HI2.out, p.set _ _, hx.set4 HSZ.out _ _⟩
                                      case measure =>
                                        have e1 := (p.set (.int .u64 (q : Int)) (.int .i64 (F' + 1))).c2
                                        have h2 := HL.out
                                        simp only [e1, c2, celN]
                                        omega
                                    · have ht' := half_test (N := N') false (by rw [beq_eq_false_iff_ne]; exact hz)
                                      have hs := SAME.out N' F' HI'.out hz
                                      clear hz nz' HI' HI HZ
                                      by_cases s1 : N' = N
                                      · by_cases s2 : F' = F
                                        · have hok := hs.1 ⟨s1, s2⟩
                                          have HE2 := Lib.hid (show R = (f, true) by rw [HE.out, hok]; rfl)
                                          subst s1 s2
                                          clear hs hok HE SAME
                                          go_wp2
                                          go_ret2
                                          exact ⟨pair_res HE2.out, hx⟩
                                        · have hok : okF u P = false := by rw [Bool.eq_false_iff]; exact fun k => s2 (hs.2 k).2
                                          have HE2 := Lib.hid (show R = (0, false) by rw [HE.out, hok]; rfl)
                                          subst s1
                                          have d1 : (F' == F) = false := by rw [beq_eq_false_iff_ne]; exact s2
                                          have d2 : (F' != F) = true := by unfold bne; rw [d1]; rfl
                                          clear hs hok HE SAME s2
                                          go_wp2
                                          go_ret2
                                          exact ⟨pair_res HE2.out, hx⟩
                                      · have hok : okF u P = false := by rw [Bool.eq_false_iff]; exact fun k => s1 (hs.2 k).1
                                        have HE2 := Lib.hid (show R = (0, false) by rw [HE.out, hok]; rfl)
                                        have d1 : ((N' : Int) == (N : Int)) = false := by rw [beq_eq_false_iff_ne]; omega
                                        have d2 : ((N' : Int) != (N : Int)) = true := by unfold bne; rw [d1]; rfl
                                        clear hs hok HE SAME s1
                                        go_wp2
                                        go_ret2
                                        exact ⟨pair_res HE2.out, hx⟩
                      · have HE := Lib.hid (show R = (0, false) by rw [HRR.out]; exact numR_big l hNA hNB hbig)
                        have hb2 : (9007199254740992 : Int) < (u : Int) := by omega
                        clear hA hB q1 q2 q3 q4 hPv hNA hNB hbig
                        go_wp2
                        go_ret2
                        exact ⟨pair_res HE.out, HX2.out⟩
          · have h1 : (((t1[k]'hlt).toNat : Int) == 112) = false := hat 112 false (by rw [beq_eq_false_iff_ne]; exact hp)
            have h2 : (((t1[k]'hlt).toNat : Int) != 112) = true := by unfold bne; rw [h1]; rfl
            have HNO := Lib.hid (show ∀ j, j < k + 1 → l1[j]? ≠ some 112 from fun j hj => by
              by_cases e : j = k
              · rw [e]; exact hp
              · exact hno.out j (by omega))
            clear hat hp
            go_wp2
            go_round
            case rel => exact ⟨k + 1, by omega, by go_num, HNO⟩
            case measure => simp [intOf]; omega
        · have hk2 : k = t1.size := by omega
          subst hk2
          have e : R = (0, false) := by
            have hs : t1.size = l1.length := by rw [HT1.out, size_list]
            rw [HRR.out]
            exact numR_nop l (by unfold numB; rw [← HL1.out, spl_none l1 (fun j hj => hno.out j (by omega))])
          have HE := Lib.hid e
          clear hk hlt e
          go_wp2
          go_ret2
          exact ⟨pair_res HE.out, Ext.refl _⟩
end Go.Proofs.YthmdobajilladaaDoor
