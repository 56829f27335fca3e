/- The document's answers for layer 3: what is taken in of a text. Condition: cells are integers of 64 bits, the base is from 2 to 36. -/
import Derived.Test.YthmdobajilladaaDoorC3RefC
namespace Go.Proofs.YthmdobajilladaaDoor
open Go.RowKit
set_option linter.unusedVariables false

theorem lin_V (x y z k : Int) : V x (y + z + 18446744073709551616 * k) = V x y + 18446744073709551616 * z + 340282366920938463463374607431768211456 * k := by
  unfold V; omega
theorem lin_all (vt vy X z hb k1 k2 k3 nB kB d r q : Int) (h1 : vt = vy + 18446744073709551616 * z + 340282366920938463463374607431768211456 * k3) (h2 : vy = X + 340282366920938463463374607431768211456 * k1) (h3 : z = hb + 18446744073709551616 * k2) (h4 : X + 18446744073709551616 * hb = nB + 340282366920938463463374607431768211456 * kB) (h5 : r = nB + d - 340282366920938463463374607431768211456 * q) :
    vt + d = r + 340282366920938463463374607431768211456 * (k1 + k2 + k3 + kB + q) := by omega
theorem U_part (l h : Int) : U l + 18446744073709551616 * h = V l h := by unfold V; omega
theorem mod_two128 (n : Nat) : ((n % two128 : Nat) : Int) = (n : Int) - 340282366920938463463374607431768211456 * ((n / two128 : Nat) : Int) := by
  unfold two128; omega
theorem V_digit (d : Nat) (h : d < 36) : V (d : Int) 0 = (d : Int) := by unfold V U; omega
/-- One digit taken in, in cells: the pair's low cell times the base, its high cell times it, and the digit. -/
theorem accept_math (N B d : Nat) (b : Int) (hb : b = B) (h36 : B ≤ 36) (hd : d < 36) :
    ∃ x y z t : Int, lo (U (lo (N : Int)) * U b) = x ∧ hi (U (lo (N : Int)) * U b) = y ∧ wrap64 (hi (N : Int) * b) = z ∧ wrap64 (y + z) = t ∧ I64 x ∧ I64 t
      ∧ lo (V x t + V (d : Int) 0) = lo (((N * B + d) % two128 : Nat) : Int) ∧ hi (V x t + V (d : Int) 0) = hi (((N * B + d) % two128 : Nat) : Int) := by
  have hU := U_few b B hb h36
  refine ⟨_, _, _, _, rfl, rfl, rfl, rfl, lo_i64 _, i64_wrap _, ?_⟩
  rw [V_digit d hd, hU, hb]
  obtain ⟨k1, hk1⟩ := V_mk (U (lo (N : Int)) * (B : Int))
  obtain ⟨k2, hk2⟩ := wrap_is (hi (N : Int) * (B : Int))
  obtain ⟨k3, hk3⟩ := wrap_is (hi (U (lo (N : Int)) * (B : Int)) + wrap64 (hi (N : Int) * (B : Int)))
  obtain ⟨k4, hk4⟩ := V_mk (N : Int)
  have hp := U_part (lo (N : Int)) (hi (N : Int))
  rw [hk4] at hp
  have h4 : U (lo (N : Int)) * (B : Int) + 18446744073709551616 * (hi (N : Int) * (B : Int)) = ((N * B : Nat) : Int) + 340282366920938463463374607431768211456 * (k4 * (B : Int)) := by
    rw [← Int.mul_assoc, ← Int.mul_assoc, ← Int.add_mul, Int.natCast_mul, ← Int.add_mul, hp]
  have h5 := mod_two128 (N * B + d)
  rw [Int.natCast_add] at h5
  have h1 := lin_V (lo (U (lo (N : Int)) * (B : Int))) (hi (U (lo (N : Int)) * (B : Int))) (wrap64 (hi (N : Int) * (B : Int))) k3
  rw [← hk3] at h1
  exact same _ (lin_all _ _ _ _ _ _ _ _ _ _ _ _ _ h1 hk1 hk2 h4 h5)
theorem value_lt (c : UInt8) (B : Nat) (hB : B ≤ 36) : vN c B < 36 := by
  unfold vN
  cases h : valueOf c B with
  | none => simp
  | some d =>
    unfold valueOf at h
    cases hv : vdig c with
    | none => rw [hv] at h; cases h
    | some e =>
      rw [hv] at h
      by_cases he : e < B
      · simp only [he, if_true, Option.some.injEq] at h
        subst h
        simp; omega
      · simp only [he, if_false] at h; cases h
theorem value_none {c : UInt8} {B : Nat} (h : vB c B = false) : valueOf c B = none := by
  unfold vB at h
  cases hv : valueOf c B with
  | none => rfl
  | some d => rw [hv] at h; cases h
theorem value_some {c : UInt8} {B : Nat} (h : vB c B = true) : valueOf c B = some (vN c B) := by
  unfold vB at h
  unfold vN
  cases hv : valueOf c B with
  | none => rw [hv] at h; cases h
  | some d => rfl
theorem drop_at (s : ByteArray) (k : Nat) (h : k < s.size) : s.data.toList.drop k = s[k] :: s.data.toList.drop (k + 1) := by
  rw [List.drop_eq_getElem_cons (by simpa using h)]
  rfl
set_option maxRecDepth 100000 in
set_option maxHeartbeats 4000000 in
theorem raccept_calls (w0 : World) (a c b : Int) (ha : I64 a) (hc : I64 c) (s : ByteArray) (hs : s.size ≤ 1000000000) (P B : Nat) (hP : W a c = P) (hb : b = B) (h2 : 2 ≤ B) (h36 : B ≤ 36) (w : World) (h : Ext w0 w) :
    Calls Tryd.prog 43 #[.agg #[.int .i64 a, .int .i64 c], .string s, .int .i64 b] w fun e w' => e = .returned (.tuple #[.agg #[.int .i64 (lo (((acc B P s.data.toList).1 : Nat) : Int)), .int .i64 (hi (((acc B P s.data.toList).1 : Nat) : Int))], .int .i64 (((acc B P s.data.toList).2 : Nat) : Int)]) ∧ Ext w0 w' := by
  obtain ⟨e1, e2, hPl⟩ := W_at a c ha hc P hP
  have hr := Lib.hid (rright_calls b)
  have hd : decide (2 ≤ b ∧ b ≤ 36) = true := decide_eq_true ⟨by omega, by omega⟩
  rw [hd] at hr
  have hbI : I64 b := by unfold I64; omega
  have hbn : b.toNat = B := by omega
  have hvl := Lib.hid (fun (x : UInt8) => rvalue_calls x b)
  rw [hbn] at hvl
  have hum := Lib.hid (fun (N : Nat) W' => rumul_calls W' (lo (N : Int)) b (lo_i64 _) hbI W' (Ext.refl W'))
  have hac := Lib.hid (fun (N d : Nat) (hN : d < 36) => accept_math N B d b hb h36 hN)
  have HE := Lib.hid (And.intro e1 e2)
  have HP := Lib.hid hPl
  have HB := Lib.hid (And.intro h2 h36)
  clear e1 e2 ha hc hP hb hd hPl h2 h36 hbn hbI
  obtain ⟨Q, hQ⟩ : ∃ q, q = acc B P s.data.toList := ⟨_, rfl⟩
  rw [← hQ]
  have HQ := Lib.hid hQ
  clear hQ
  go_enter Tryd.func43, Tryd.ntmps43
  go_wp2_with fail
  refine (hr.out _).mono ?_
  rintro e w1 ⟨rfl, rfl⟩
  obtain ⟨o0, o1⟩ := own2 w (.int .i64 a) (.int .i64 c) (.int .i64 0) (.int .i64 0)
  have hs0 := h.1.size
  have hX := (h.cells #[.int .i64 a, .int .i64 c] 56).cells #[.int .i64 0, .int .i64 0] 56
  clear h hr
  go_wp2_with fail
  go_loopw [8] (fun i wr => ∃ N k : Nat, k ≤ s.size ∧ i = .int .i64 (k : Int) ∧ RowKit.Hid (N < two128 ∧ Q = acc B N (s.data.toList.drop k)) ∧ Own wr w.heap.size (.int .i64 (lo (N : Int))) (.int .i64 (hi (N : Int))) ∧ Own wr (w.heap.size + 1) (.int .i64 0) (.int .i64 0) ∧ Ext w0 wr) (fun i _ => s.size - (intOf i).toNat)
  case atStart =>
    refine ⟨P, 0, Nat.zero_le _, rfl, Lib.hid ⟨HP.out, by rw [HQ.out, List.drop_zero]⟩, ?_, o1, hX⟩
    rw [← HE.out.1, ← HE.out.2]
    exact o0
  case round =>
    obtain ⟨N, k, hk, rfl, HT, o0', o1', hE⟩ := hrel
    clear o0 o1 hX
    have p0 := o0'.c0
    have p1 := o0'.c1
    have r0 := o1'.c0
    have r1 := o1'.c1
    have g0 := o1'.f0
    have g1 := o1'.f1
    have lt1 := o1'.lt
    by_cases hlt : k < s.size
    · have hdr := drop_at s k hlt
      have HD := Lib.hid hdr
      clear hdr
      cases hv : vB s[k] B with
      | false =>
        have hx := hvl.out s[k]
        rw [hv] at hx
        have HV := Lib.hid hx
        clear hx
        have hfin : RowKit.Hid (Q.1 = N ∧ ((Q.2 : Nat) : Int) = (s.size : Int) - (k : Int)) := by
          have e := HT.out.2
          rw [HD.out, acc_none (value_none hv)] at e
          rw [e]
          refine Lib.hid ⟨rfl, ?_⟩
          have : (s.data.toList.drop (k + 1)).length = s.size - (k + 1) := by rw [List.length_drop]; rfl
          simp only [this]
          omega
        clear hv
        go_wp2_with fail
        refine (HV.out _).mono ?_
        rintro e w2 ⟨rfl, rfl⟩
        go_wp2_with fail
        have o9 := o1'.set (.int .i64 (lo (N : Int))) (.int .i64 (hi (N : Int)))
        have c0 := o9.c0
        have c1 := o9.c1
        refine bodyPost_ret (v := .tuple #[.agg #[.int .i64 (lo (N : Int)), .int .i64 (hi (N : Int))], .int .i64 ((s.size : Int) - (k : Int))]) ?_ rfl ⟨by rw [hfin.out.1, hfin.out.2], hE.set2 (n := w.heap.size + 1) (by omega) _ _⟩
        simp [results, Tryd.results43, go_sem, c0, c1]
      | true =>
        have hx := hvl.out s[k]
        rw [hv] at hx
        obtain ⟨d, hd⟩ : ∃ d, d = vN s[k] B := ⟨_, rfl⟩
        have hd36 : d < 36 := by rw [hd]; exact value_lt _ _ HB.out.2
        rw [← hd] at hx
        have HV := Lib.hid hx
        clear hx
        obtain ⟨x, y, z, t, m1, m2, m3, m4, m5, m6, m7, m8⟩ := hac.out N d hd36
        have hx := fun W' => radd_calls W' x t (d : Int) 0 m5 m6 (by unfold I64; omega) (by unfold I64; omega) W' (Ext.refl W')
        rw [m7, m8] at hx
        have cA := Lib.hid hx
        clear hx
        have hx := hum.out N
        rw [m1, m2] at hx
        have cM := Lib.hid hx
        have hnext : RowKit.Hid ((N * B + d) % two128 < two128 ∧ Q = acc B ((N * B + d) % two128) (s.data.toList.drop (k + 1))) := by
          have e := HT.out.2
          rw [HD.out, acc_some (value_some hv), ← hd] at e
          exact Lib.hid ⟨Nat.mod_lt _ (by unfold two128; omega), e⟩
        clear hx hv hd hd36 m1 m2 m5 m6 m7 m8
        obtain ⟨M, hM⟩ : ∃ m, m = (N * B + d) % two128 := ⟨_, rfl⟩
        rw [← hM] at cA hnext
        clear hM
        obtain ⟨n0, hn0⟩ : ∃ m, m = lo (N : Int) := ⟨_, rfl⟩
        obtain ⟨n1, hn1⟩ : ∃ m, m = hi (N : Int) := ⟨_, rfl⟩
        rw [← hn0] at cM p0
        rw [← hn1] at p1 m3
        rw [← hn0, ← hn1] at o0'
        obtain ⟨q0, hq0⟩ : ∃ m, m = lo (M : Int) := ⟨_, rfl⟩
        obtain ⟨q1, hq1⟩ : ∃ m, m = hi (M : Int) := ⟨_, rfl⟩
        rw [← hq0, ← hq1] at cA
        have HQ0 := Lib.hid hq0
        have HQ1 := Lib.hid hq1
        clear hn0 hn1 hq0 hq1
        go_wp2_with fail
        refine (HV.out _).mono ?_
        rintro e w2 ⟨rfl, rfl⟩
        go_wp2_with fail
        refine (cM.out _).mono ?_
        rintro e w3 ⟨rfl, hx⟩
        replace o0' := o0'.ext hx
        replace o1' := o1'.ext hx
        replace hE := hE.trans hx
        clear hx p0 p1 r0 r1 g0 g1 lt1
        have p0 := o0'.c0
        have p1 := o0'.c1
        have lt1 := o0'.lt
        go_wp2_with fail
        refine (cA.out _).mono ?_
        rintro e w4 ⟨rfl, hx⟩
        replace o0' := (o0'.alloc #[.int .i64 x, .int .i64 t] 56).ext hx
        replace o1' := (o1'.alloc #[.int .i64 x, .int .i64 t] 56).ext hx
        replace hE := (hE.cells #[.int .i64 x, .int .i64 t] 56).trans hx
        clear hx p0 p1 lt1
        have p0 := o0'.c0
        have p1 := o0'.c1
        have f0 := o0'.f0
        have f1 := o0'.f1
        have lt1 := o0'.lt
        go_wp2_with fail
        go_roundw
        case rel =>
          refine ⟨M, k + 1, by omega, by go_num, hnext, ?_, o1'.other (by omega) _ _, hE.set2 hs0 _ _⟩
          rw [← HQ0.out, ← HQ1.out]
          exact o0'.set _ _
        case measure => simp [intOf]; omega
    · have hfin : RowKit.Hid (Q.1 = N ∧ Q.2 = 0) := by
        have e := HT.out.2
        rw [List.drop_eq_nil_of_le (by show s.size ≤ k; omega)] at e
        rw [e]
        exact Lib.hid ⟨rfl, rfl⟩
      obtain ⟨n0, hn0⟩ : ∃ m, m = lo (N : Int) := ⟨_, rfl⟩
      obtain ⟨n1, hn1⟩ : ∃ m, m = hi (N : Int) := ⟨_, rfl⟩
      rw [← hn0] at p0
      rw [← hn1] at p1
      have HN0 := Lib.hid hn0
      have HN1 := Lib.hid hn1
      clear hn0 hn1
      go_wp2_with fail
      have o9 := o1'.set (.int .i64 n0) (.int .i64 n1)
      have c0 := o9.c0
      have c1 := o9.c1
      refine bodyPost_ret (v := .tuple #[.agg #[.int .i64 n0, .int .i64 n1], .int .i64 0]) ?_ rfl ⟨by rw [hfin.out.1, hfin.out.2, HN0.out, HN1.out]; rfl, hE.set2 (n := w.heap.size + 1) (by omega) _ _⟩
      simp [results, Tryd.results43, go_sem, c0, c1]
end Go.Proofs.YthmdobajilladaaDoor
