/- Layer 3 (package digit): what is taken off a number, and one digit taken in. Condition: cells are integers of 64 bits, the base is from 2 to 36. -/
import Derived.Test.YtoaijcahjmkkpaaC3ProgA
import Derived.Test.YtoaijcahjmkkpaaC3RefD
import Derived.Test.YtoaijcahjmkkpaaC2ProgF
namespace Go.Proofs.Ytoaijcahjmkkpaa
open Go.RowKit
set_option linter.unusedVariables false

set_option maxRecDepth 100000 in
theorem step_calls (a c b : Int) (ha : I64 a) (hc : I64 c) (P B : Nat) (hP : W a c = P) (hb : b = B) (h2 : 2 ≤ B) (h36 : B ≤ 36) (w : World) :
    Calls Try.prog 11 #[.agg #[.int .i64 a, .int .i64 c], .int .i64 b] w fun e w' => e = .returned (.tuple #[.agg #[.int .i64 (lo ((P / B : Nat) : Int)), .int .i64 (hi ((P / B : Nat) : Int))], .int .u8 ((letter (P % B)).toNat : Int)]) ∧ Ext w w' := by
  obtain ⟨l, q1, r, q2, m1, m2, m3, m4, m5, m6, m7, m8, m9, hl⟩ := step_math a c b P B hP hb h2 h36
  have hbI : I64 b := by unfold I64; omega
  have hz : (b == 0) = false := by simp; omega
  have hx := fun W' => udiv_calls W' c 0 b hc (by unfold I64; omega) hbI W' (Ext.refl W')
  rw [m1, m2, m3, hz, okR_near, okR_near, okE_near] at hx
  have c1 := Lib.hid hx
  clear hx
  have hx := fun W' => udiv_calls W' a l b ha hl hbI W' (Ext.refl W')
  rw [m4, m5, m6, hz, okR_near, okR_near, okE_near, m7, m9] at hx
  rw [m8] at c1
  have c2 := Lib.hid hx
  clear hx
  have hr := Lib.hid (isbase_calls b)
  have hR : P % B < 36 := Nat.lt_of_lt_of_le (Nat.mod_lt P (Nat.lt_of_lt_of_le (by decide) h2)) h36
  have hd : decide (2 ≤ b ∧ b ≤ 36) = true := decide_eq_true ⟨by omega, by omega⟩
  rw [hd] at hr
  clear m1 m2 m3 m4 m5 m6 m7 m8 m9 hP ha hc hbI hz hb h2 h36 hd hl
  obtain ⟨x, hx⟩ : ∃ x, x = lo ((P / B : Nat) : Int) := ⟨_, rfl⟩
  obtain ⟨y, hy⟩ : ∃ x, x = hi ((P / B : Nat) : Int) := ⟨_, rfl⟩
  obtain ⟨R, hRR⟩ : ∃ x, x = P % B := ⟨_, rfl⟩
  rw [← hx, ← hRR] at c2
  rw [← hy] at c1
  rw [← hx, ← hy, ← hRR]
  rw [← hRR] at hR
  clear hx hy hRR
  have cC := Lib.hid (char_in R hR)
  clear hR
  go_enter Try.func11, Try.ntmps11
  go_wp2_with fail
  refine (hr.out _).mono ?_
  rintro e w1 ⟨rfl, rfl⟩
  obtain ⟨o0, o1⟩ := own2 w (.int .i64 a) (.int .i64 c) (.int .i64 0) (.int .i64 0)
  have hX := ((Ext.refl w).cells #[.int .i64 a, .int .i64 c] 24).cells #[.int .i64 0, .int .i64 0] 24
  clear hr
  go_wp2_with fail
  refine (c1.out _).mono ?_
  rintro e w2 ⟨rfl, hx2⟩
  replace o0 := o0.ext hx2
  replace o1 := o1.ext hx2
  replace hX := hX.trans hx2
  clear hx2 c1
  have p0 := o0.c0
  have p1 := o0.c1
  go_wp2_with fail
  refine (c2.out _).mono ?_
  rintro e w3 ⟨rfl, hx3⟩
  replace o1 := o1.ext hx3
  replace hX := hX.trans hx3
  clear hx3 c2 p0 p1 o0
  have g0 := o1.c0
  have g1 := o1.c1
  have f0 := o1.f0
  have f1 := o1.f1
  have lt := o1.lt
  go_wp2_with fail
  refine (cC.out _).mono ?_
  rintro e w4 ⟨rfl, rfl⟩
  go_wp2_with fail
  have o9 := o1.set (.int .i64 x) (.int .i64 y)
  have k0 := o9.c0
  have k1 := o9.c1
  refine bodyPost_ret (v := .tuple #[.agg #[.int .i64 x, .int .i64 y], .int .u8 ((letter R).toNat : Int)]) ?_ rfl ⟨rfl, (hX.set2 (n := w.heap.size + 1) (by omega) _ _)⟩
  simp [results, Try.results11, go_sem, k0, k1]
theorem of_digit (d : Nat) (h : d < 36) (W : World) : Calls Try.prog 47 #[.int .i64 (d : Int)] W fun e w' => e = .returned (.agg #[.int .i64 (d : Int), .int .i64 0]) ∧ Ext W w' := by
  have hI : I64 (d : Int) := by unfold I64; omega
  have hx := of_calls W (d : Int) hI W (Ext.refl W)
  rw [(of_is _ hI).1, (of_is _ hI).2, if_neg (by omega)] at hx
  exact hx
/-- One digit more. -/
theorem shifted_calls (N d : Nat) (b : Int) (B : Nat) (hb : b = B) (h36 : B ≤ 36) (hd : d < 36) (w : World) :
    Calls Try.prog 35 #[.agg #[.int .i64 (lo (N : Int)), .int .i64 (hi (N : Int))], .int .i64 b, .int .i64 (d : Int)] w fun e w' => e = .returned (.agg #[.int .i64 (lo (((N * B + d) % two128 : Nat) : Int)), .int .i64 (hi (((N * B + d) % two128 : Nat) : Int))]) ∧ Ext w w' := by
  obtain ⟨x, y, z, t, m1, m2, m3, m4, m5, m6, m7, m8⟩ := accept_math N B d b hb h36 hd
  have hbI : I64 b := by unfold I64; omega
  have hx := fun W' => add_calls W' x t (d : Int) 0 m5 m6 (by unfold I64; omega) (by unfold I64; omega) W' (Ext.refl W')
  rw [m7, m8] at hx
  have cA := Lib.hid hx
  clear hx
  have hx := fun W' => umul_calls W' (lo (N : Int)) b (lo_i64 _) hbI W' (Ext.refl W')
  rw [m1, m2] at hx
  have cM := Lib.hid hx
  clear hx
  have cO := Lib.hid (of_digit d hd)
  clear hd m1 m2 m5 m6 m7 m8 hbI hb h36
  obtain ⟨M, hM⟩ : ∃ m, m = (N * B + d) % two128 := ⟨_, rfl⟩
  rw [← hM] at cA
  rw [← hM]
  clear hM
  obtain ⟨n0, hn0⟩ : ∃ m, m = lo (N : Int) := ⟨_, rfl⟩
  obtain ⟨n1, hn1⟩ : ∃ m, m = hi (N : Int) := ⟨_, rfl⟩
  rw [← hn0] at cM
  rw [← hn1] at m3
  rw [← hn0, ← hn1]
  obtain ⟨q0, hq0⟩ : ∃ m, m = lo (M : Int) := ⟨_, rfl⟩
  obtain ⟨q1, hq1⟩ : ∃ m, m = hi (M : Int) := ⟨_, rfl⟩
  rw [← hq0, ← hq1] at cA
  rw [← hq0, ← hq1]
  clear hn0 hn1 hq0 hq1
  go_enter Try.func35, Try.ntmps35
  go_wp2_with fail
  obtain ⟨o0, o1⟩ := own2 w (.int .i64 n0) (.int .i64 n1) (.int .i64 0) (.int .i64 0)
  have hX := ((Ext.refl w).cells #[.int .i64 n0, .int .i64 n1] 24).cells #[.int .i64 0, .int .i64 0] 24
  refine (cM.out _).mono ?_
  rintro e w2 ⟨rfl, hx2⟩
  replace o0 := o0.ext hx2
  replace o1 := o1.ext hx2
  replace hX := hX.trans hx2
  clear hx2 cM
  have p0 := o0.c0
  have p1 := o0.c1
  have lt0 := o0.lt
  go_upto_region 4 with fail
  have F0 := (Own.last (X := w2) (x := Value.int .i64 x) (y := Value.int .i64 t) (t := 24)).ext (Ext.drew (Ext.refl _))
  have G0 := (o1.alloc #[.int .i64 x, .int .i64 t] 24).ext (Ext.drew (Ext.refl _))
  have hXd := (hX.cells #[.int .i64 x, .int .i64 t] 24).drew
  go_region_with (first | (go_at_call 47; refine (cO.out _).mono ?_; rintro e w3 ⟨rfl, hx0⟩; have F1 := F0.ext hx0; have G1 := G0.ext hx0; have hX1 := hXd.trans hx0; clear hx0; have kc0 := F1.c0; have kc1 := F1.c1) | (go_at_call 46; refine (cA.out _).mono ?_; rintro e w4 ⟨rfl, hx0⟩; have G2 := G1.ext hx0; have hX2 := hX1.trans hx0; clear hx0; have mc0 := G2.c0; have mc1 := G2.c1; have mf0 := G2.f0; have mf1 := G2.f1; have mlt := G2.lt))
  all_goals
    replace G2 := G2.set (.int .i64 q0) (.int .i64 q1)
    replace hX2 := hX2.set2 (n := w.heap.size + 1) (by omega) (.int .i64 q0) (.int .i64 q1)
    clear kc0 kc1 mc0 mc1 mf0 mf1
    have mc0 := G2.c0
    have mc1 := G2.c1
    go_wp2_with fail
    refine bodyPost_ret (v := .agg #[.int .i64 q0, .int .i64 q1]) ?_ rfl ⟨rfl, hX2⟩
    simp [results, Try.results35, go_sem, mc0, mc1]
set_option maxRecDepth 100000 in
set_option maxHeartbeats 4000000 in
theorem accept_calls (a c b : Int) (ha : I64 a) (hc : I64 c) (s : ByteArray) (hs : s.size ≤ 1000000000) (P B : Nat) (hP : W a c = P) (hb : b = B) (h2 : 2 ≤ B) (h36 : B ≤ 36) (w : World) :
    Calls Try.prog 21 #[.agg #[.int .i64 a, .int .i64 c], .string s, .int .i64 b] w fun e w' => e = .returned (.tuple #[.agg #[.int .i64 (lo (((acc B P s.data.toList).1 : Nat) : Int)), .int .i64 (hi (((acc B P s.data.toList).1 : Nat) : Int))], .int .i64 (((acc B P s.data.toList).2 : Nat) : Int)]) ∧ Ext w w' := by
  obtain ⟨e1, e2, hPl⟩ := W_at a c ha hc P hP
  have hr := Lib.hid (isbase_calls b)
  have hd : decide (2 ≤ b ∧ b ≤ 36) = true := decide_eq_true ⟨by omega, by omega⟩
  rw [hd] at hr
  have hbn : b.toNat = B := by omega
  have hvl := Lib.hid (fun (x : UInt8) => value_calls x b)
  rw [hbn] at hvl
  have hsh := Lib.hid (fun (N d : Nat) (hN : d < 36) => shifted_calls N d b B hb h36 hN)
  have HE := Lib.hid (And.intro e1 e2)
  have HP := Lib.hid hPl
  have HB := Lib.hid (And.intro h2 h36)
  clear e1 e2 ha hc hP hb hd hPl h2 h36 hbn
  obtain ⟨Q, hQ⟩ : ∃ q, q = acc B P s.data.toList := ⟨_, rfl⟩
  rw [← hQ]
  have HQ := Lib.hid hQ
  clear hQ
  go_enter Try.func21, Try.ntmps21
  go_wp2_with fail
  refine (hr.out _).mono ?_
  rintro e w1 ⟨rfl, rfl⟩
  obtain ⟨o0, o1⟩ := own2 w (.int .i64 a) (.int .i64 c) (.int .i64 0) (.int .i64 0)
  have hX := ((Ext.refl w).cells #[.int .i64 a, .int .i64 c] 24).cells #[.int .i64 0, .int .i64 0] 24
  clear hr
  go_wp2_with fail
  go_loopw [19] (fun i wr => ∃ N k : Nat, k ≤ s.size ∧ i = .int .i64 (k : Int) ∧ RowKit.Hid (N < two128 ∧ Q = acc B N (s.data.toList.drop k)) ∧ Own wr w.heap.size (.int .i64 (lo (N : Int))) (.int .i64 (hi (N : Int))) ∧ Own wr (w.heap.size + 1) (.int .i64 0) (.int .i64 0) ∧ Ext w wr) (fun i _ => s.size - (intOf i).toNat)
  case atStart =>
    refine ⟨P, 0, Nat.zero_le _, rfl, Lib.hid ⟨HP.out, by rw [HQ.out, List.drop_zero]⟩, ?_, o1, hX⟩
    rw [← HE.out.1, ← HE.out.2]
    exact o0
  case round =>
    obtain ⟨N, k, hk, rfl, HT, o0', o1', hE⟩ := hrel
    clear o0 o1 hX
    have p0 := o0'.c0
    have p1 := o0'.c1
    have g0 := o1'.f0
    have g1 := o1'.f1
    have r0 := o1'.c0
    have r1 := o1'.c1
    have lt1 := o1'.lt
    by_cases hlt : k < s.size
    · have hdr := drop_at s k hlt
      have HD := Lib.hid hdr
      clear hdr
      cases hv : vB s[k] B with
      | false =>
        have hx := hvl.out s[k]
        rw [hv] at hx
        have HV := Lib.hid hx
        clear hx
        have hfin : RowKit.Hid (Q.1 = N ∧ ((Q.2 : Nat) : Int) = (s.size : Int) - (k : Int)) := by
          have e := HT.out.2
          rw [HD.out, acc_none (value_none hv)] at e
          rw [e]
          refine Lib.hid ⟨rfl, ?_⟩
          have : (s.data.toList.drop (k + 1)).length = s.size - (k + 1) := by rw [List.length_drop]; rfl
          simp only [this]
          omega
        clear hv
        go_wp2_with fail
        refine (HV.out _).mono ?_
        rintro e w2 ⟨rfl, rfl⟩
        go_wp2_with fail
        have o9 := o1'.set (.int .i64 (lo (N : Int))) (.int .i64 (hi (N : Int)))
        have c0 := o9.c0
        have c1 := o9.c1
        refine bodyPost_ret (v := .tuple #[.agg #[.int .i64 (lo (N : Int)), .int .i64 (hi (N : Int))], .int .i64 ((s.size : Int) - (k : Int))]) ?_ rfl ⟨by rw [hfin.out.1, hfin.out.2], hE.set2 (n := w.heap.size + 1) (by omega) _ _⟩
        simp [results, Try.results21, go_sem, c0, c1]
      | true =>
        have hx := hvl.out s[k]
        rw [hv] at hx
        obtain ⟨d, hd⟩ : ∃ d, d = vN s[k] B := ⟨_, rfl⟩
        have hd36 : d < 36 := by rw [hd]; exact value_lt _ _ HB.out.2
        rw [← hd] at hx
        have HV := Lib.hid hx
        clear hx
        have hx := hsh.out N d hd36
        have hnext : RowKit.Hid ((N * B + d) % two128 < two128 ∧ Q = acc B ((N * B + d) % two128) (s.data.toList.drop (k + 1))) := by
          have e := HT.out.2
          rw [HD.out, acc_some (value_some hv), ← hd] at e
          exact Lib.hid ⟨Nat.mod_lt _ (by unfold two128; omega), e⟩
        obtain ⟨M, hM⟩ : ∃ m, m = (N * B + d) % two128 := ⟨_, rfl⟩
        rw [← hM] at hx hnext
        clear hM hv hd hd36
        obtain ⟨n0, hn0⟩ : ∃ m, m = lo (N : Int) := ⟨_, rfl⟩
        obtain ⟨n1, hn1⟩ : ∃ m, m = hi (N : Int) := ⟨_, rfl⟩
        rw [← hn0, ← hn1] at hx
        rw [← hn0] at p0
        rw [← hn1] at p1
        rw [← hn0, ← hn1] at o0'
        obtain ⟨q0, hq0⟩ : ∃ m, m = lo (M : Int) := ⟨_, rfl⟩
        obtain ⟨q1, hq1⟩ : ∃ m, m = hi (M : Int) := ⟨_, rfl⟩
        rw [← hq0, ← hq1] at hx
        have HQ0 := Lib.hid hq0
        have HQ1 := Lib.hid hq1
        have cS := Lib.hid hx
        clear hn0 hn1 hq0 hq1 hx
        go_wp2_with fail
        refine (HV.out _).mono ?_
        rintro e w2 ⟨rfl, rfl⟩
        go_wp2_with fail
        refine (cS.out _).mono ?_
        rintro e w3 ⟨rfl, hx⟩
        replace o0' := o0'.ext hx
        replace o1' := o1'.ext hx
        replace hE := hE.trans hx
        clear hx p0 p1 r0 r1 g0 g1 lt1
        have p0 := o0'.c0
        have p1 := o0'.c1
        have f0 := o0'.f0
        have f1 := o0'.f1
        have lt1 := o0'.lt
        go_wp2_with fail
        go_roundw
        case rel =>
          refine ⟨M, k + 1, by omega, by go_num, hnext, ?_, o1'.other (by omega) _ _, hE.set2 (Nat.le_refl _) _ _⟩
          rw [← HQ0.out, ← HQ1.out]
          exact o0'.set _ _
        case measure => simp [intOf]; omega
    · have hfin : RowKit.Hid (Q.1 = N ∧ Q.2 = 0) := by
        have e := HT.out.2
        rw [List.drop_eq_nil_of_le (by show s.size ≤ k; omega)] at e
        rw [e]
        exact Lib.hid ⟨rfl, rfl⟩
      obtain ⟨n0, hn0⟩ : ∃ m, m = lo (N : Int) := ⟨_, rfl⟩
      obtain ⟨n1, hn1⟩ : ∃ m, m = hi (N : Int) := ⟨_, rfl⟩
      rw [← hn0] at p0
      rw [← hn1] at p1
      have HN0 := Lib.hid hn0
      have HN1 := Lib.hid hn1
      clear hn0 hn1
      go_wp2_with fail
      have o9 := o1'.set (.int .i64 n0) (.int .i64 n1)
      have c0 := o9.c0
      have c1 := o9.c1
      refine bodyPost_ret (v := .tuple #[.agg #[.int .i64 n0, .int .i64 n1], .int .i64 0]) ?_ rfl ⟨by rw [hfin.out.1, hfin.out.2, HN0.out, HN1.out]; rfl, hE.set2 (n := w.heap.size + 1) (by omega) _ _⟩
      simp [results, Try.results21, go_sem, c0, c1]
end Go.Proofs.Ytoaijcahjmkkpaa
