/- Layer 3 (package digit): the number that a text is. Condition: the text is of at most 1000000000 bytes, the base is from 2 to 36. -/
import Derived.Test.YtoaijcahjmkkpaaC3ProgD
import Derived.Test.YtoaijcahjmkkpaaShelfBits
namespace Go.Proofs.Ytoaijcahjmkkpaa
open Go.RowKit
set_option linter.unusedVariables false

/-- What the program makes of what was taken in (q) of the rest r of a text. -/
def numEnd (m : Bool) (q : Nat × Nat) (r : List UInt8) : Int × Int × Int :=
  if (q.2 == r.length || (!(r.drop (r.length - q.2)).isEmpty && r.drop (r.length - q.2) != [46])) = true then (0, 0, 0)
  else if (r.drop (r.length - q.2) == [46]) = true then (lo (if m then -(q.1 : Int) else (q.1 : Int)), hi (if m then -(q.1 : Int) else (q.1 : Int)), 2)
  else (lo (if m then -(q.1 : Int) else (q.1 : Int)), 0, 1)
theorem drop_last (l : List UInt8) (h : l ≠ []) : l.drop (l.length - 1) = [l.getLast h] := by
  have e := List.dropLast_concat_getLast h
  have hl : l.dropLast.length = l.length - 1 := List.length_dropLast
  conv => lhs; rw [← e]
  rw [List.length_append, List.length_singleton, Nat.add_sub_cancel, List.drop_left]
theorem num_end (l : List UInt8) (m : Bool) (j : Nat) (hj : j ≤ l.length) (q : Nat × Nat) (hq : q.2 ≤ (l.drop j).length) :
    numPart l m j q (q.2 == 1 && point l) = numEnd m q (l.drop j) := by
  obtain ⟨n, L⟩ := q
  simp only at hq ⊢
  obtain ⟨r, hr⟩ : ∃ r, r = l.drop j := ⟨_, rfl⟩
  rw [← hr] at hq ⊢
  have hlen : l.length = j + r.length := by rw [hr, List.length_drop]; omega
  have hl : r.length ≠ 0 → r.getLast? = l.getLast? := by
    intro h
    rw [hr, List.getLast?_drop, if_neg (by omega)]
  by_cases h0 : L = 0
  · subst h0
    have e0 : r.drop (r.length - 0) = [] := by simp
    unfold numPart numEnd
    rw [e0]
    by_cases hr0 : r.length = 0
    · simp [hr0, hlen]
    · have : ¬ r.length + j ≤ j := by omega
      have h2 : ¬ (0 = r.length) := fun h => hr0 h.symm
      simp [hlen, h2]
      omega
  · by_cases h1 : L = 1
    · subst h1
      have hne : r ≠ [] := by intro h; rw [h] at hq; simp at hq
      have hn0 : r.length ≠ 0 := by cases r with
        | nil => exact absurd rfl hne
        | cons _ _ => simp
      have e1 := drop_last r hne
      have hp : point l = (r.getLast hne == 46) := by
        unfold point
        rw [← hl hn0, List.getLast?_eq_some_getLast hne]
        rfl
      rw [hp]
      unfold numPart numEnd
      rw [e1]
      cases hc : (r.getLast hne == 46) with
      | true =>
        have : r.getLast hne = 46 := by simpa using hc
        rw [this]
        by_cases hr1 : r.length = 1
        · simp [hlen, hr1]
        · have h2 : ¬ (1 = r.length) := fun h => hr1 h.symm
          have h3 : ¬ (j + r.length ≤ j + 1) := by omega
          simp [hlen, h2, h3]
      | false =>
        have h3 : r.getLast hne ≠ 46 := by simpa using hc
        simp [h3]
    · have e2 : ∃ x y t, r.drop (r.length - L) = x :: y :: t := by
        have hlen2 : (r.drop (r.length - L)).length = L := by rw [List.length_drop]; omega
        cases hd : r.drop (r.length - L) with
        | nil => rw [hd] at hlen2; simp at hlen2; omega
        | cons x t => cases t with
          | nil => rw [hd] at hlen2; simp at hlen2; omega
          | cons y t => exact ⟨x, y, t, rfl⟩
      obtain ⟨x, y, t, e2⟩ := e2
      unfold numPart numEnd
      rw [e2]
      have h4 : 0 < L := by omega
      simp [h1, h4]
theorem minus_le (l : List UInt8) (k : Nat) (hk : k ≤ l.length) : k + (minus l k).toNat ≤ l.length := by
  by_cases h : k < l.length
  · cases minus l k <;> simp <;> omega
  · have : minus l k = false := by unfold minus; rw [List.getElem?_eq_none (by omega)]; rfl
    rw [this]; simp; omega
theorem pre_le (B : Nat) (l : List UInt8) : (pre B l).2 ≤ l.length := by
  cases l with
  | nil => simp [pre]
  | cons x t => unfold pre; split <;> (try split) <;> (try split) <;> simp
theorem num_is (B : Nat) (l : List UInt8) : numOf B l = numEnd (minus l (pre B l).2) (acc (pre B l).1 0 (l.drop ((pre B l).2 + (minus l (pre B l).2).toNat))) (l.drop ((pre B l).2 + (minus l (pre B l).2).toNat)) := by
  unfold numOf
  exact num_end l _ _ (minus_le l _ (pre_le B l)) _ (acc_left _ _ _)
theorem has_minus (l : List UInt8) (k : Nat) : Lib.hasPrefix (l.drop k) [45] = minus l k := by
  unfold Lib.hasPrefix minus
  rw [← List.head?_drop]
  cases l.drop k with
  | nil => rfl
  | cons x t =>
    show ((45 : UInt8) == x && List.isPrefixOf [] t) = (some x == some 45)
    rw [List.isPrefixOf_nil_left, Bool.and_true, Bool.eq_iff_iff, beq_iff_eq, beq_iff_eq, Option.some.injEq]
    exact eq_comm
theorem trim_minus (l : List UInt8) (k : Nat) : Lib.trimPrefix (l.drop k) [45] = l.drop (k + (minus l k).toNat) := by
  unfold Lib.trimPrefix
  rw [has_minus]
  cases minus l k <;> simp [List.drop_drop]
theorem bytes_back (s : ByteArray) (l : List UInt8) (h : s.data.toList = l) : s = ⟨l.toArray⟩ := by
  subst h
  cases s
  simp
set_option maxRecDepth 100000 in
set_option maxHeartbeats 4000000 in
theorem number_walk (s s1 r : ByteArray) (B D n L : Nat) (m : Bool) (T : Nat) (E : ByteArray) (x y : Int) (hd : decide (2 ≤ (B : Int) ∧ (B : Int) ≤ 36) = true)
    (cB : RowKit.Hid (∀ w, Calls Try.prog 38 #[.string s, .int .i64 (B : Int)] w fun e w' => e = .returned (.tuple #[.string s1, .int .i64 (D : Int)]) ∧ w = w'))
    (cP : RowKit.Hid (∀ w, Calls Try.prog 39 #[.string s1, .string ⟨#[45]⟩] w fun e w' => e = .returned (.tuple #[.string r, .bool m]) ∧ w' = w))
    (cA : RowKit.Hid (∀ w, Calls Try.prog 21 #[.agg #[.int .i64 0, .int .i64 0], .string r, .int .i64 (D : Int)] w fun e w' => e = .returned (.tuple #[.agg #[.int .i64 x, .int .i64 y], .int .i64 (L : Int)]) ∧ Ext w w'))
    (cN : RowKit.Hid (∀ w, Calls Try.prog 33 #[.agg #[.int .i64 x, .int .i64 y]] w fun e w' => e = .returned (.agg #[.int .i64 (lo (-(T : Int))), .int .i64 (hi (-(T : Int)))]) ∧ Ext w w'))
    (hx : x = lo (T : Int)) (hy : y = hi (T : Int)) (hr : r.size ≤ 1000000000) (hn : n + L = r.size) (hE : r.extract n r.size = E) (w : World) :
    Calls Try.prog 24 #[.string s, .int .i64 (B : Int)] w fun e w' => e = .returned (.tuple #[.agg #[.int .i64 (numEnd m (T, L) r.data.toList).1, .int .i64 (numEnd m (T, L) r.data.toList).2.1], .int .i64 (numEnd m (T, L) r.data.toList).2.2]) ∧ Ext w w' := by
  have cI := isbase_calls (B : Int)
  rw [hd] at cI
  have CI := Lib.hid cI
  clear cI hd
  have hlen : r.data.toList.length = r.size := rfl
  have hEl : r.data.toList.drop (r.data.toList.length - L) = E.data.toList := by
    rw [← hE, extract_list, hlen, show r.size - L = n by omega]
  have hn1 : (r.size : Int) - (L : Int) = (n : Int) := by omega
  have hn2 : (n : Int) ≤ (r.size : Int) := by omega
  have hn3 : n ≤ r.size := by omega
  have HEl := Lib.hid hEl
  have HX := Lib.hid hx
  have HY := Lib.hid hy
  have HLen := Lib.hid hlen
  clear hEl hx hy hlen
  have key : ∀ z0 z1 k : Int, numEnd m (T, L) r.data.toList = (z0, z1, k) →
      Calls Try.prog 24 #[.string s, .int .i64 (B : Int)] w (fun e w' => e = .returned (.tuple #[.agg #[.int .i64 z0, .int .i64 z1], .int .i64 k]) ∧ Ext w w') → Calls Try.prog 24 #[.string s, .int .i64 (B : Int)] w fun e w' => e = .returned (.tuple #[.agg #[.int .i64 (numEnd m (T, L) r.data.toList).1, .int .i64 (numEnd m (T, L) r.data.toList).2.1], .int .i64 (numEnd m (T, L) r.data.toList).2.2]) ∧ Ext w w' := by
    intro z0 z1 k h c
    rw [h]
    exact c
  by_cases hA : L = r.size
  · refine key 0 0 0 (by unfold numEnd; rw [HLen.out]; simp [hA]) ?_
    have hAb : ((L : Int) == (r.size : Int)) = true := by rw [beq_iff_eq]; omega
    clear key hA hn HEl HX HY HLen cN
    go_enter Try.func24, Try.ntmps24
    go_wp2_with fail
    refine (CI.out _).mono ?_
    rintro e w1 ⟨rfl, rfl⟩
    go_wp2_with fail
    refine (cB.out _).mono ?_
    rintro e w1 ⟨rfl, rfl⟩
    go_wp2_with fail
    refine (cP.out _).mono ?_
    rintro e w1 ⟨rfl, rfl⟩
    have hX := (Ext.refl w).cells #[.int .i64 0, .int .i64 0] 24
    have o0 := Own.last (X := w) (x := Value.int .i64 0) (y := Value.int .i64 0) (t := 24)
    go_wp2_with fail
    refine (cA.out _).mono ?_
    rintro e w2 ⟨rfl, hx⟩
    replace hX := hX.trans hx
    replace o0 := o0.ext hx
    clear hx
    have hs2 := hX.1.size
    have lt0 := o0.lt
    have o1 := Own.last (X := w2) (x := Value.int .i64 x) (y := Value.int .i64 y) (t := 24)
    have g0 := o0.c0
    have g1 := o0.c1
    have r0 := o0.f0
    have r1 := o0.f1
    go_wp2_with fail
    have o9 := (o0.set (.int .i64 0) (.int .i64 0)).alloc #[.int .i64 x, .int .i64 y] 24
    have z0 := o9.c0
    have z1 := o9.c1
    refine bodyPost_ret (v := .tuple #[.agg #[.int .i64 0, .int .i64 0], .int .i64 0]) ?_ rfl ⟨rfl, (hX.set2 (Nat.le_refl _) _ _).cells _ _⟩
    simp [results, Try.results24, go_sem, z0, z1]
  · have hAb : ((L : Int) == (r.size : Int)) = false := by rw [beq_eq_false_iff_ne]; omega
    have hA2 : (L == r.size) = false := by rw [beq_eq_false_iff_ne]; exact hA
    by_cases hE0 : E = ⟨#[]⟩
    · subst hE0
      have hnil : r.data.toList.drop (r.data.toList.length - L) = [] := HEl.out
      cases m
      · refine key x 0 1 (by unfold numEnd; rw [hnil, HLen.out, hA2, HX.out]; rfl) ?_
        clear key hA hA2 hn HEl HX HY HLen cN hnil
        go_enter Try.func24, Try.ntmps24
        go_wp2_with fail
        refine (CI.out _).mono ?_
        rintro e w1 ⟨rfl, rfl⟩
        go_wp2_with fail
        refine (cB.out _).mono ?_
        rintro e w1 ⟨rfl, rfl⟩
        go_wp2_with fail
        refine (cP.out _).mono ?_
        rintro e w1 ⟨rfl, rfl⟩
        have hX := (Ext.refl w).cells #[.int .i64 0, .int .i64 0] 24
        have o0 := Own.last (X := w) (x := Value.int .i64 0) (y := Value.int .i64 0) (t := 24)
        go_wp2_with fail
        refine (cA.out _).mono ?_
        rintro e w2 ⟨rfl, hx⟩
        replace hX := hX.trans hx
        replace o0 := o0.ext hx
        clear hx
        have hs2 := hX.1.size
        have lt0 := o0.lt
        have o1 := Own.last (X := w2) (x := Value.int .i64 x) (y := Value.int .i64 y) (t := 24)
        have g0 := o0.c0
        have g1 := o0.c1
        have r0 := o0.f0
        have r1 := o0.f1
        go_wp2_with fail
        have o9 := (o0.set (.int .i64 x) (.int .i64 0)).alloc #[.int .i64 x, .int .i64 y] 24
        have z0 := o9.c0
        have z1 := o9.c1
        refine bodyPost_ret (v := .tuple #[.agg #[.int .i64 x, .int .i64 0], .int .i64 1]) ?_ rfl ⟨rfl, (hX.set2 (Nat.le_refl _) _ _).cells _ _⟩
        simp [results, Try.results24, go_sem, z0, z1]
      · obtain ⟨q0, hq0⟩ : ∃ q, q = lo (-(T : Int)) := ⟨_, rfl⟩
        obtain ⟨q1, hq1⟩ : ∃ q, q = hi (-(T : Int)) := ⟨_, rfl⟩
        have CN := cN
        rw [← hq0, ← hq1] at CN
        refine key q0 0 1 (by unfold numEnd; rw [hnil, HLen.out, hA2, hq0]; rfl) ?_
        clear key hA hA2 hn HEl HX HY HLen cN hq0 hq1 hnil
        go_enter Try.func24, Try.ntmps24
        go_wp2_with fail
        refine (CI.out _).mono ?_
        rintro e w1 ⟨rfl, rfl⟩
        go_wp2_with fail
        refine (cB.out _).mono ?_
        rintro e w1 ⟨rfl, rfl⟩
        go_wp2_with fail
        refine (cP.out _).mono ?_
        rintro e w1 ⟨rfl, rfl⟩
        have hX := (Ext.refl w).cells #[.int .i64 0, .int .i64 0] 24
        have o0 := Own.last (X := w) (x := Value.int .i64 0) (y := Value.int .i64 0) (t := 24)
        go_wp2_with fail
        refine (cA.out _).mono ?_
        rintro e w2 ⟨rfl, hx⟩
        replace hX := hX.trans hx
        replace o0 := o0.ext hx
        clear hx
        have hs2 := hX.1.size
        have lt0 := o0.lt
        have o1 := Own.last (X := w2) (x := Value.int .i64 x) (y := Value.int .i64 y) (t := 24)
        have g0 := o0.c0
        have g1 := o0.c1
        have r0 := o0.f0
        have r1 := o0.f1
        go_wp2_with fail
        refine (CN.out _).mono ?_
        rintro e w4 ⟨rfl, hx⟩
        have o0' := (o0.alloc #[.int .i64 x, .int .i64 y] 24).ext hx
        have o1' := o1.ext hx
        have hX' := (hX.cells #[.int .i64 x, .int .i64 y] 24).trans hx
        clear hx g0 g1 r0 r1
        have p0 := o1'.c0
        have p1 := o1'.c1
        have f0 := o1'.f0
        have f1 := o1'.f1
        have lt1 := o1'.lt
        have hne : w2.heap.size ≠ w.heap.size := by omega
        go_upto_region 11 with fail
        clear p0 p1 f0 f1 lt1
        have u1 := o1'.set (.int .i64 q0) (.int .i64 q1)
        have u0 := o0'.other hne (.int .i64 q0) (.int .i64 q1)
        have hX2 := hX'.set2 (n := w2.heap.size) hs2 (.int .i64 q0) (.int .i64 q1)
        have p0 := u1.c0
        have p1 := u1.c1
        have g0 := u0.c0
        have g1 := u0.c1
        have r0 := u0.f0
        have r1 := u0.f1
        have lt1 := u0.lt
        go_wp2_with fail
        have o9 := u0.set (.int .i64 q0) (.int .i64 0)
        have z0 := o9.c0
        have z1 := o9.c1
        refine bodyPost_ret (v := .tuple #[.agg #[.int .i64 q0, .int .i64 0], .int .i64 1]) ?_ rfl ⟨rfl, hX2.set2 (Nat.le_refl _) _ _⟩
        simp [results, Try.results24, go_sem, z0, z1]
    · by_cases hE1 : E = ⟨#[46]⟩
      · subst hE1
        have hpt : r.data.toList.drop (r.data.toList.length - L) = [46] := HEl.out
        cases m
        · refine key x y 2 (by unfold numEnd; rw [hpt, HLen.out, hA2, HX.out, HY.out]; rfl) ?_
          clear key hA hA2 hn HEl HX HY HLen cN hE0 hpt
          go_enter Try.func24, Try.ntmps24
          go_wp2_with fail
          refine (CI.out _).mono ?_
          rintro e w1 ⟨rfl, rfl⟩
          go_wp2_with fail
          refine (cB.out _).mono ?_
          rintro e w1 ⟨rfl, rfl⟩
          go_wp2_with fail
          refine (cP.out _).mono ?_
          rintro e w1 ⟨rfl, rfl⟩
          have hX := (Ext.refl w).cells #[.int .i64 0, .int .i64 0] 24
          have o0 := Own.last (X := w) (x := Value.int .i64 0) (y := Value.int .i64 0) (t := 24)
          go_wp2_with fail
          refine (cA.out _).mono ?_
          rintro e w2 ⟨rfl, hx⟩
          replace hX := hX.trans hx
          replace o0 := o0.ext hx
          clear hx
          have hs2 := hX.1.size
          have lt0 := o0.lt
          have o1 := Own.last (X := w2) (x := Value.int .i64 x) (y := Value.int .i64 y) (t := 24)
          have g0 := o0.c0
          have g1 := o0.c1
          have r0 := o0.f0
          have r1 := o0.f1
          go_wp2_with fail
          have o9 := (o0.set (.int .i64 x) (.int .i64 y)).alloc #[.int .i64 x, .int .i64 y] 24
          have z0 := o9.c0
          have z1 := o9.c1
          refine bodyPost_ret (v := .tuple #[.agg #[.int .i64 x, .int .i64 y], .int .i64 2]) ?_ rfl ⟨rfl, (hX.set2 (Nat.le_refl _) _ _).cells _ _⟩
          simp [results, Try.results24, go_sem, z0, z1]
        · obtain ⟨q0, hq0⟩ : ∃ q, q = lo (-(T : Int)) := ⟨_, rfl⟩
          obtain ⟨q1, hq1⟩ : ∃ q, q = hi (-(T : Int)) := ⟨_, rfl⟩
          have CN := cN
          rw [← hq0, ← hq1] at CN
          refine key q0 q1 2 (by unfold numEnd; rw [hpt, HLen.out, hA2, hq0, hq1]; rfl) ?_
          clear key hA hA2 hn HEl HX HY HLen cN hE0 hq0 hq1 hpt
          go_enter Try.func24, Try.ntmps24
          go_wp2_with fail
          refine (CI.out _).mono ?_
          rintro e w1 ⟨rfl, rfl⟩
          go_wp2_with fail
          refine (cB.out _).mono ?_
          rintro e w1 ⟨rfl, rfl⟩
          go_wp2_with fail
          refine (cP.out _).mono ?_
          rintro e w1 ⟨rfl, rfl⟩
          have hX := (Ext.refl w).cells #[.int .i64 0, .int .i64 0] 24
          have o0 := Own.last (X := w) (x := Value.int .i64 0) (y := Value.int .i64 0) (t := 24)
          go_wp2_with fail
          refine (cA.out _).mono ?_
          rintro e w2 ⟨rfl, hx⟩
          replace hX := hX.trans hx
          replace o0 := o0.ext hx
          clear hx
          have hs2 := hX.1.size
          have lt0 := o0.lt
          have o1 := Own.last (X := w2) (x := Value.int .i64 x) (y := Value.int .i64 y) (t := 24)
          have g0 := o0.c0
          have g1 := o0.c1
          have r0 := o0.f0
          have r1 := o0.f1
          go_wp2_with fail
          refine (CN.out _).mono ?_
          rintro e w4 ⟨rfl, hx⟩
          have o0' := (o0.alloc #[.int .i64 x, .int .i64 y] 24).ext hx
          have o1' := o1.ext hx
          have hX' := (hX.cells #[.int .i64 x, .int .i64 y] 24).trans hx
          clear hx g0 g1 r0 r1
          have p0 := o1'.c0
          have p1 := o1'.c1
          have f0 := o1'.f0
          have f1 := o1'.f1
          have lt1 := o1'.lt
          have hne : w2.heap.size ≠ w.heap.size := by omega
          go_upto_region 11 with fail
          clear p0 p1 f0 f1 lt1
          have u1 := o1'.set (.int .i64 q0) (.int .i64 q1)
          have u0 := o0'.other hne (.int .i64 q0) (.int .i64 q1)
          have hX2 := hX'.set2 (n := w2.heap.size) hs2 (.int .i64 q0) (.int .i64 q1)
          have p0 := u1.c0
          have p1 := u1.c1
          have g0 := u0.c0
          have g1 := u0.c1
          have r0 := u0.f0
          have r1 := u0.f1
          have lt1 := u0.lt
          go_wp2_with fail
          have o9 := u0.set (.int .i64 q0) (.int .i64 q1)
          have z0 := o9.c0
          have z1 := o9.c1
          refine bodyPost_ret (v := .tuple #[.agg #[.int .i64 q0, .int .i64 q1], .int .i64 2]) ?_ rfl ⟨rfl, hX2.set2 (Nat.le_refl _) _ _⟩
          simp [results, Try.results24, go_sem, z0, z1]
      · have e0 : E.data.toList.isEmpty = false := by
          cases h : E.data.toList with
          | nil => exact absurd (bytes_back E [] h) hE0
          | cons _ _ => rfl
        have e1 : (E.data.toList != [46]) = true := by
          rw [bne_iff_ne]
          intro h
          exact hE1 (bytes_back E [46] h)
        refine key 0 0 0 (by unfold numEnd; rw [HEl.out, HLen.out, hA2, e0, e1]; rfl) ?_
        have e2 : E.toList.isEmpty = false := by rw [Lib.toList_data]; exact e0
        have e3 : (E.toList == [46]) = false := by rw [Lib.toList_data, beq_eq_false_iff_ne]; exact fun h => hE1 (bytes_back E [46] h)
        clear key hA hA2 hn HEl HX HY HLen cN hE0 hE1 e0 e1
        go_enter Try.func24, Try.ntmps24
        go_wp2_with fail
        refine (CI.out _).mono ?_
        rintro e w1 ⟨rfl, rfl⟩
        go_wp2_with fail
        refine (cB.out _).mono ?_
        rintro e w1 ⟨rfl, rfl⟩
        go_wp2_with fail
        refine (cP.out _).mono ?_
        rintro e w1 ⟨rfl, rfl⟩
        have hX := (Ext.refl w).cells #[.int .i64 0, .int .i64 0] 24
        have o0 := Own.last (X := w) (x := Value.int .i64 0) (y := Value.int .i64 0) (t := 24)
        go_wp2_with fail
        refine (cA.out _).mono ?_
        rintro e w2 ⟨rfl, hx⟩
        replace hX := hX.trans hx
        replace o0 := o0.ext hx
        clear hx
        have hs2 := hX.1.size
        have lt0 := o0.lt
        have o1 := Own.last (X := w2) (x := Value.int .i64 x) (y := Value.int .i64 y) (t := 24)
        have g0 := o0.c0
        have g1 := o0.c1
        have r0 := o0.f0
        have r1 := o0.f1
        go_wp2_with fail
        have o9 := (o0.set (.int .i64 0) (.int .i64 0)).alloc #[.int .i64 x, .int .i64 y] 24
        have z0 := o9.c0
        have z1 := o9.c1
        refine bodyPost_ret (v := .tuple #[.agg #[.int .i64 0, .int .i64 0], .int .i64 0]) ?_ rfl ⟨rfl, (hX.set2 (Nat.le_refl _) _ _).cells _ _⟩
        simp [results, Try.results24, go_sem, z0, z1]
theorem sub_size (s : ByteArray) (k : Nat) : (sub s k).size ≤ s.size := by
  unfold sub
  split
  · exact Nat.le_refl _
  · rw [ByteArray.size_extract]; omega
theorem number_calls (s : ByteArray) (hs : s.size ≤ 1000000000) (B : Nat) (h2 : 2 ≤ B) (h36 : B ≤ 36) (w : World) :
    Calls Try.prog 24 #[.string s, .int .i64 (B : Int)] w fun e w' => e = .returned (.tuple #[.agg #[.int .i64 (numOf B s.data.toList).1, .int .i64 (numOf B s.data.toList).2.1], .int .i64 (numOf B s.data.toList).2.2]) ∧ Ext w w' := by
  rw [num_is]
  obtain ⟨b2, b36, bk⟩ := pre_bd B s.data.toList h2 h36
  have cB := afterbase_calls s hs B
  obtain ⟨D, hD⟩ : ∃ D, D = (pre B s.data.toList).1 := ⟨_, rfl⟩
  obtain ⟨k, hk⟩ : ∃ k, k = (pre B s.data.toList).2 := ⟨_, rfl⟩
  rw [← hD, ← hk] at cB
  rw [← hD, ← hk]
  rw [← hD] at b2 b36
  obtain ⟨m, hm⟩ : ∃ m, m = minus s.data.toList k := ⟨_, rfl⟩
  rw [← hm]
  obtain ⟨r, hr⟩ : ∃ r : ByteArray, r = ⟨(s.data.toList.drop (k + m.toNat)).toArray⟩ := ⟨_, rfl⟩
  have hrl : s.data.toList.drop (k + m.toNat) = r.data.toList := by rw [hr]
  have hrs : r.size ≤ s.size := by
    have e := congrArg List.length hrl
    have e2 : r.data.toList.length = r.size := rfl
    have e3 : s.data.toList.length = s.size := rfl
    rw [List.length_drop, e2, e3] at e
    omega
  have cP := fun w => Try.strings_CutPrefix (sub s k) ⟨#[45]⟩ w
  rw [sub_list, show (⟨#[45]⟩ : ByteArray).data.toList = [45] from rfl, trim_minus, has_minus, ← hm, ← hr] at cP
  have cA := fun w => accept_calls 0 0 (D : Int) (by unfold I64; omega) (by unfold I64; omega) r (by omega) 0 D (by decide +kernel) rfl b2 b36 w
  have hq := acc_left D r.data.toList 0
  rw [hrl]
  obtain ⟨T, hT⟩ : ∃ T, T = (acc D 0 r.data.toList).1 := ⟨_, rfl⟩
  obtain ⟨L, hL⟩ : ∃ L, L = (acc D 0 r.data.toList).2 := ⟨_, rfl⟩
  rw [show acc D 0 r.data.toList = (T, L) by rw [hT, hL]]
  rw [← hT, ← hL] at cA
  rw [← hL] at hq
  have e2 : r.data.toList.length = r.size := rfl
  rw [e2] at hq
  have cN := fun w => neg_calls w (lo (T : Int)) (hi (T : Int)) (lo_i64 _) (hi_i64 _) w (Ext.refl w)
  obtain ⟨j, hj⟩ := V_mk (T : Int)
  have e3 := same (n := -V (lo (T : Int)) (hi (T : Int))) (m := -(T : Int)) (-j) (by rw [hj]; omega)
  rw [e3.1, e3.2] at cN
  exact number_walk s (sub s k) r B D (r.size - L) L m T _ _ _ (decide_eq_true ⟨by omega, by omega⟩) (Lib.hid cB) (Lib.hid cP) (Lib.hid cA) (Lib.hid cN) rfl rfl (by omega) (by omega) rfl w
end Go.Proofs.Ytoaijcahjmkkpaa
