/- The document's answers for layer 3: the number that a text is. Condition: the text is of at most 1000000000 bytes, the base is from 2 to 36. -/
import Derived.Test.YtoaijcahjmkkpaaC3RefE
import Derived.Deep.DeepCutAuto
import Derived.Deep.CutBlock
namespace Go.Proofs.Ytoaijcahjmkkpaa
open Go.RowKit
set_option linter.unusedVariables false

/-- The base that a text is read in, and how many letters tell it. -/
def pre (B : Nat) (l : List UInt8) : Nat × Nat := if l.head? = some 35 then (10, 1) else if l.head? = some 36 then (16, 1) else if l.head? = some 37 then (2, 1) else (B, 0)
theorem pre_bd (B : Nat) (l : List UInt8) (h2 : 2 ≤ B) (h36 : B ≤ 36) : 2 ≤ (pre B l).1 ∧ (pre B l).1 ≤ 36 ∧ (pre B l).2 ≤ 1 := by
  unfold pre
  split
  · exact ⟨by decide, by decide, by decide⟩
  · split
    · exact ⟨by decide, by decide, by decide⟩
    · split
      · exact ⟨by decide, by decide, by decide⟩
      · exact ⟨h2, h36, Nat.zero_le _⟩
theorem head_at (s : ByteArray) (h : 0 < s.size) : s.data.toList.head? = some s[0] := by
  have e := drop_at s 0 h
  rw [List.drop_zero] at e
  rw [e]
  rfl
theorem Own.set1 {w : World} {b : Nat} {x y : Value} (h : Own w b x y) (v : Value) : Own (w.setCell ⟨b, 1, none⟩ v) b x v := by
  have hne : (⟨b, 1, none⟩ : Addr) ≠ ⟨b, 0, none⟩ := by simp
  refine ⟨?_, World.cell?_setCell_same _ _ _ (h := h.c1), ?_, ?_, ?_⟩
  · rw [World.cell?_setCell_other (h := hne)]; exact h.c0
  · rw [World.frozen?_setCell]; exact h.f0
  · rw [World.frozen?_setCell]; exact h.f1
  · simpa [World.setCell] using h.lt
theorem Own.other1 {w : World} {b b' o : Nat} {x y : Value} (h : Own w b x y) (hb : b' ≠ b) (v : Value) : Own (w.setCell ⟨b', o, none⟩ v) b x y := by
  have hne : ∀ j, (⟨b', o, none⟩ : Addr) ≠ ⟨b, j, none⟩ := fun j e => hb (by injection e)
  refine ⟨?_, ?_, ?_, ?_, ?_⟩
  · rw [World.cell?_setCell_other (h := hne _)]; exact h.c0
  · rw [World.cell?_setCell_other (h := hne _)]; exact h.c1
  · rw [World.frozen?_setCell]; exact h.f0
  · rw [World.frozen?_setCell]; exact h.f1
  · simpa [World.setCell] using h.lt
/-- Is the letter at a place a minus? -/
def minus (l : List UInt8) (k : Nat) : Bool := l[k]? == some 45
theorem at_list (s : ByteArray) (k : Nat) (h : k < s.size) : s.data.toList[k]? = some s[k] := by
  have e := drop_at s k h
  have := congrArg List.head? e
  rw [List.head?_drop] at this
  exact this
/-- Is the last letter a point? -/
def point (l : List UInt8) : Bool := l.getLast? == some 46
/-- The number that a text is: its two cells, and its kind; a text that is none is 0, 0, of kind 0. -/
def numPart (l : List UInt8) (m : Bool) (j : Nat) (q : Nat × Nat) (d : Bool) : Int × Int × Int :=
  if (decide (0 < (if d then 0 else q.2)) || decide (l.length ≤ j + d.toNat)) = true then (0, 0, 0)
  else if d then (lo (if m then -(q.1 : Int) else (q.1 : Int)), hi (if m then -(q.1 : Int) else (q.1 : Int)), 2) else (lo (if m then -(q.1 : Int) else (q.1 : Int)), 0, 1)
def numOf (B : Nat) (l : List UInt8) : Int × Int × Int :=
  numPart l (minus l (pre B l).2) ((pre B l).2 + (minus l (pre B l).2).toNat) (acc (pre B l).1 0 (l.drop ((pre B l).2 + (minus l (pre B l).2).toNat))) ((acc (pre B l).1 0 (l.drop ((pre B l).2 + (minus l (pre B l).2).toNat))).2 == 1 && point l)
theorem point_is (s : ByteArray) (h : 0 < s.size) : point s.data.toList = ((s[s.size - 1].toNat : Int) == 46) := by
  unfold point
  have hl : s.data.toList.length = s.size := rfl
  rw [List.getLast?_eq_getElem?, hl, at_list s (s.size - 1) (by omega), Bool.eq_iff_iff, beq_iff_eq, beq_iff_eq, Option.some.injEq, ← UInt8.toNat_inj]
  have : (46 : UInt8).toNat = 46 := rfl
  omega
theorem extract_list (s : ByteArray) (j : Nat) : (s.extract j s.size).data.toList = s.data.toList.drop j := by
  rw [Lib.extract_data]
  simp [List.take_of_length_le]
theorem pre_is (B : Nat) (s : ByteArray) (h : 0 < s.size) : pre B s.data.toList = if (s[0].toNat : Int) = 35 then (10, 1) else if (s[0].toNat : Int) = 36 then (16, 1) else if (s[0].toNat : Int) = 37 then (2, 1) else (B, 0) := by
  unfold pre
  rw [head_at s h]
  have key : ∀ n : Nat, n < 256 → (some s[0] = some n.toUInt8 ↔ (s[0].toNat : Int) = n) := by
    intro n hn
    rw [Option.some.injEq, ← UInt8.toNat_inj, Nat.toUInt8_eq, UInt8.toNat_ofNat', Nat.mod_eq_of_lt hn]
    omega
  have k35 := key 35 (by decide)
  have k36 := key 36 (by decide)
  have k37 := key 37 (by decide)
  simp only [show (35 : Nat).toUInt8 = (35 : UInt8) from rfl, show (36 : Nat).toUInt8 = (36 : UInt8) from rfl, show (37 : Nat).toUInt8 = (37 : UInt8) from rfl] at k35 k36 k37
  simp only [k35, k36, k37]
  rfl
theorem minus_is (s : ByteArray) (k : Nat) : minus s.data.toList k = if h : k < s.size then ((s[k].toNat : Int) == 45) else false := by
  unfold minus
  by_cases h : k < s.size
  · rw [at_list s k h, dif_pos h, Bool.eq_iff_iff, beq_iff_eq, beq_iff_eq, Option.some.injEq, ← UInt8.toNat_inj]
    have : (45 : UInt8).toNat = 45 := rfl
    omega
  · rw [dif_neg h, List.getElem?_eq_none (by show s.size ≤ k; omega)]
    rfl
set_option maxRecDepth 100000 in
set_option maxHeartbeats 4000000 in
theorem rnumber_calls (w0 : World) (s : ByteArray) (hs : s.size ≤ 1000000000) (h0 : 0 < s.size) (B : Nat) (h2 : 2 ≤ B) (h36 : B ≤ 36) (w : World) (h : Ext w0 w) :
    Calls Try.prog 25 #[.string s, .int .i64 (B : Int)] w fun e w' => e = .returned (.tuple #[.agg #[.int .i64 (numOf B s.data.toList).1, .int .i64 (numOf B s.data.toList).2.1], .int .i64 (numOf B s.data.toList).2.2]) ∧ Ext w0 w' := by
  have hr := Lib.hid (rright_calls (B : Int))
  have hd : decide (2 ≤ (B : Int) ∧ (B : Int) ≤ 36) = true := decide_eq_true ⟨by omega, by omega⟩
  rw [hd] at hr
  have hz : ((s.size : Int) == 0) = false := by rw [beq_eq_false_iff_ne]; omega
  have hz2 : ¬ s.size = 0 := by omega
  have hc := head_at s h0
  have HC := Lib.hid hc
  clear hc hd
  go_enter Try.func25, Try.ntmps25
  try simp only [List.append]
  go_wp2_with fail
  refine (hr.out _).mono ?_
  rintro e w1 ⟨rfl, rfl⟩
  go_upto_block 0 with fail
  go_cut [1, 6] (fun x y wx => x = .int .i64 ((pre B s.data.toList).1 : Int) ∧ y = .int .i64 ((pre B s.data.toList).2 : Int) ∧ wx = w.alloc (.cells #[.int .i64 0, .int .i64 0] 24))
  case first =>
    have hp := pre_is B s h0
    have hx1 : (s[0].toNat : Int) ≤ 255 := by have := s[0].toNat_lt; omega
    obtain ⟨p, hpp⟩ : ∃ p, p = pre B s.data.toList := ⟨_, rfl⟩
    rw [← hpp] at hp
    have HPP := Lib.hid hpp
    clear hpp
    generalize s[0].toNat = x at *
    by_cases c1 : (x : Int) = 35
    · rw [if_pos c1] at hp
      have c1b : ((x : Int) == 35) = true := by simpa using c1
      have HP := Lib.hid hp
      clear hp c1
      go_wp2_with fail
      go_meet
      exact ⟨by rw [← HPP.out, HP.out]; rfl, by rw [← HPP.out, HP.out]; rfl, rfl⟩
    · rw [if_neg c1] at hp
      have c1b : ((x : Int) == 35) = false := by simpa using c1
      clear c1
      by_cases c2 : (x : Int) = 36
      · rw [if_pos c2] at hp
        have c2b : ((x : Int) == 36) = true := by simpa using c2
        have HP := Lib.hid hp
        clear hp c2
        go_wp2_with fail
        go_meet
        exact ⟨by rw [← HPP.out, HP.out]; rfl, by rw [← HPP.out, HP.out]; rfl, rfl⟩
      · rw [if_neg c2] at hp
        have c2b : ((x : Int) == 36) = false := by simpa using c2
        clear c2
        by_cases c3 : (x : Int) = 37
        · rw [if_pos c3] at hp
          have c3b : ((x : Int) == 37) = true := by simpa using c3
          have HP := Lib.hid hp
          clear hp c3
          go_wp2_with fail
          go_meet
          exact ⟨by rw [← HPP.out, HP.out]; rfl, by rw [← HPP.out, HP.out]; rfl, rfl⟩
        · rw [if_neg c3] at hp
          have c3b : ((x : Int) == 37) = false := by simpa using c3
          have HP := Lib.hid hp
          clear hp c3
          go_wp2_with fail
          go_meet
          exact ⟨by rw [← HPP.out, HP.out], by rw [← HPP.out, HP.out]; rfl, rfl⟩
  case rest =>
    obtain ⟨rfl, rfl, rfl⟩ := hcut
    obtain ⟨b2, b36, at1⟩ := pre_bd B s.data.toList h2 h36
    clear hr hz hz2 HC
    obtain ⟨D, hD⟩ : ∃ p, p = (pre B s.data.toList).1 := ⟨_, rfl⟩
    obtain ⟨k, hk⟩ : ∃ p, p = (pre B s.data.toList).2 := ⟨_, rfl⟩
    rw [← hD] at b2 b36 ⊢
    rw [← hk] at at1 ⊢
    have HD := Lib.hid hD
    have HK := Lib.hid hk
    clear hD hk
    go_upto_region 12 with fail
    go_cut [7] (fun v wx => v = .bool (minus s.data.toList k) ∧ wx = w.alloc (.cells #[.int .i64 0, .int .i64 0] 24))
    case first =>
      have hm := minus_is s k
      by_cases hlt : k < s.size
      · rw [dif_pos hlt] at hm
        have hlt2 : (k : Int) < (s.size : Int) := by omega
        have HM := Lib.hid hm
        clear hm
        obtain ⟨m, hmm⟩ : ∃ m, ((s[k].toNat : Int) == 45) = m := ⟨_, rfl⟩
        have HMM := Lib.hid hmm
        go_wp2_with fail
        go_meet
        exact ⟨by rw [HM.out, HMM.out], rfl⟩
      · rw [dif_neg hlt] at hm
        have hlt2 : ¬ (k : Int) < (s.size : Int) := by omega
        have HM := Lib.hid hm
        clear hm
        go_wp2_with fail
        go_meet
        exact ⟨by rw [HM.out], rfl⟩
    case rest =>
      obtain ⟨rfl, rfl⟩ := hcut
      obtain ⟨m, hm⟩ : ∃ m, m = minus s.data.toList k := ⟨_, rfl⟩
      rw [← hm]
      have HM := Lib.hid hm
      have hle : k + m.toNat ≤ s.size := by
        rw [hm, minus_is]
        by_cases hlt : k < s.size
        · rw [dif_pos hlt]; cases ((s[k].toNat : Int) == 45) <;> simp <;> omega
        · rw [dif_neg hlt]; simp; omega
      clear hm
      go_upto_if 38 with fail
      go_cut [6] (fun v wx => v = .int .i64 ((k + m.toNat : Nat) : Int) ∧ wx = w.alloc (.cells #[.int .i64 0, .int .i64 0] 24))
      case first =>
        cases m
        · go_wp2_with fail
          go_meet
          exact ⟨rfl, rfl⟩
        · go_wp2_with fail
          go_meet
          exact ⟨rfl, rfl⟩
      case rest =>
        obtain ⟨rfl, rfl⟩ := hcut
        obtain ⟨j, hj⟩ : ∃ j, j = k + m.toNat := ⟨_, rfl⟩
        rw [← hj] at hle ⊢
        have HJ := Lib.hid hj
        clear hj
        obtain ⟨T, hT⟩ : ∃ T, T = acc D 0 (s.data.toList.drop j) := ⟨_, rfl⟩
        have hx := fun W' => raccept_calls W' 0 0 (D : Int) (by unfold I64; omega) (by unfold I64; omega) (s.extract j s.size) (by rw [ByteArray.size_extract]; omega) 0 D (by decide +kernel) rfl b2 b36 W' (Ext.refl W')
        rw [extract_list, ← hT] at hx
        have cA := Lib.hid hx
        have HT := Lib.hid hT
        clear hx hT b2 b36 at1 h2 h36
        have hs0 := h.1.size
        have o0 := Own.last (X := w) (x := Value.int .i64 0) (y := Value.int .i64 0) (t := 24)
        have hX := h.cells #[.int .i64 0, .int .i64 0] 24
        clear h
        go_wp2_with fail
        refine (cA.out _).mono ?_
        rintro e w2 ⟨rfl, hx⟩
        replace o0 := o0.ext hx
        replace hX := hX.trans hx
        clear hx cA
        obtain ⟨x, hx0⟩ : ∃ x, x = lo ((T.1 : Nat) : Int) := ⟨_, rfl⟩
        obtain ⟨y, hy0⟩ : ∃ x, x = hi ((T.1 : Nat) : Int) := ⟨_, rfl⟩
        rw [← hx0, ← hy0]
        have HX := Lib.hid hx0
        have HY := Lib.hid hy0
        clear hx0 hy0
        have hs2 := hX.1.size
        have lt0 := o0.lt
        have o1 := Own.last (X := w2) (x := Value.int .i64 x) (y := Value.int .i64 y) (t := 24)
        go_upto_region 17 with fail
        go_cut [59] (fun v wx => v = .bool (T.2 == 1 && point s.data.toList) ∧ wx = w2.alloc (.cells #[.int .i64 x, .int .i64 y] 24))
        case first =>
          have hpt := point_is s h0
          have hl1 : (1 : Int) ≤ (s.size : Int) := by omega
          have hl2 : s.size - 1 < s.size := by omega
          by_cases h1 : T.2 = 1
          · have h1b : ((T.2 : Int) == 1) = true := by rw [beq_iff_eq]; omega
            have h1c : (T.2 == 1) = true := by simpa using h1
            have HPT := Lib.hid hpt
            have H1C := Lib.hid h1c
            clear hpt h1 h1c
            go_wp2_with fail
            go_meet
            exact ⟨by rw [H1C.out, HPT.out, Bool.true_and], rfl⟩
          · have h1b : ((T.2 : Int) == 1) = false := by rw [beq_eq_false_iff_ne]; omega
            have h1c : (T.2 == 1) = false := by simpa using h1
            have H1C := Lib.hid h1c
            clear hpt h1 h1c
            go_wp2_with fail
            go_meet
            exact ⟨by rw [H1C.out]; rfl, rfl⟩
        case rest =>
          obtain ⟨rfl, rfl⟩ := hcut
          obtain ⟨d, hd⟩ : ∃ d, d = (T.2 == 1 && point s.data.toList) := ⟨_, rfl⟩
          rw [← hd]
          have HDD := Lib.hid hd
          clear hd
          go_upto_if 59 with fail
          go_cut [6, 9, 10] (fun u v z wx => u = .int .i64 ((j + d.toNat : Nat) : Int) ∧ v = .int .i64 (((if d then 0 else T.2) : Nat) : Int) ∧ z = .int .i64 (if d then 2 else 1) ∧ wx = w2.alloc (.cells #[.int .i64 x, .int .i64 y] 24))
          case first =>
            cases d
            · go_wp2_with fail
              go_meet
              exact ⟨rfl, rfl, rfl, rfl⟩
            · go_wp2_with fail
              go_meet
              exact ⟨rfl, rfl, rfl, rfl⟩
          case rest =>
            obtain ⟨rfl, rfl, rfl, rfl⟩ := hcut
            have hnum : RowKit.Hid (numOf B s.data.toList = numPart s.data.toList m j T d) := Lib.hid (by
              unfold numOf
              rw [← HD.out, ← HK.out, ← HM.out, ← HJ.out, ← HT.out, ← HDD.out])
            have hsz : s.data.toList.length = s.size := rfl
            have HSZ := Lib.hid hsz
            clear hsz
            obtain ⟨L, hL⟩ : ∃ L, L = (if d then 0 else T.2) := ⟨_, rfl⟩
            obtain ⟨A, hA⟩ : ∃ A, A = j + d.toNat := ⟨_, rfl⟩
            rw [← hL, ← hA]
            have HL := Lib.hid hL
            have HA := Lib.hid hA
            clear hL hA
            have g0 := o0.c0
            have g1 := o0.c1
            have r0 := o0.f0
            have r1 := o0.f1
            by_cases c1 : 0 < L
            · have c1i : (0 : Int) < (L : Int) := by omega
              have hres : RowKit.Hid (numPart s.data.toList m j T d = (0, 0, 0)) := Lib.hid (by
                unfold numPart
                rw [← HL.out, decide_eq_true c1, Bool.true_or, if_pos rfl])
              clear c1
              go_wp2_with fail
              all_goals
                have o9 := (o0.set (.int .i64 0) (.int .i64 0)).alloc #[.int .i64 x, .int .i64 y] 24
                have z0 := o9.c0
                have z1 := o9.c1
                refine bodyPost_ret (v := .tuple #[.agg #[.int .i64 0, .int .i64 0], .int .i64 0]) ?_ rfl ⟨by rw [hnum.out, hres.out], (hX.set2 hs0 _ _).cells _ _⟩
                simp [results, Try.results25, go_sem, z0, z1]
            · by_cases c2 : s.size ≤ A
              · have hres : RowKit.Hid (numPart s.data.toList m j T d = (0, 0, 0)) := Lib.hid (by
                  unfold numPart
                  rw [← HL.out, ← HA.out, HSZ.out, decide_eq_true c2, Bool.or_true, if_pos rfl])
                have c1i : ¬ (0 : Int) < (L : Int) := by omega
                have c2i : (s.size : Int) ≤ (A : Int) := by omega
                go_wp2_with fail
                all_goals
                  have o9 := (o0.set (.int .i64 0) (.int .i64 0)).alloc #[.int .i64 x, .int .i64 y] 24
                  have z0 := o9.c0
                  have z1 := o9.c1
                  refine bodyPost_ret (v := .tuple #[.agg #[.int .i64 0, .int .i64 0], .int .i64 0]) ?_ rfl ⟨by rw [hnum.out, hres.out], (hX.set2 hs0 _ _).cells _ _⟩
                  simp [results, Try.results25, go_sem, z0, z1]
              · have c1i : ¬ (0 : Int) < (L : Int) := by omega
                have c2i : ¬ (s.size : Int) ≤ (A : Int) := by omega
                cases m <;> cases d
                · obtain ⟨q0, hq0⟩ : ∃ q, q = lo (T.1 : Int) := ⟨_, rfl⟩
                  obtain ⟨q1, hq1⟩ : ∃ q, q = hi (T.1 : Int) := ⟨_, rfl⟩
                  have hres : RowKit.Hid (numPart s.data.toList false j T false = (q0, 0, 1)) := Lib.hid (by
                    have hc3 : (decide (0 < L) || decide (s.data.toList.length ≤ A)) = false := by rw [HSZ.out, decide_eq_false c1, decide_eq_false c2]; rfl
                    rw [HL.out, HA.out] at hc3
                    unfold numPart
                    rw [if_neg (by rw [hc3]; exact Bool.false_ne_true), hq0]
                    rfl)
                  rw [← HX.out] at hq0
                  rw [← HY.out] at hq1
                  subst hq0 hq1
                  go_wp2_with fail
                  have o9 := (o0.set (.int .i64 q0) (.int .i64 0)).alloc #[.int .i64 q0, .int .i64 0] 24
                  have z0 := o9.c0
                  have z1 := o9.c1
                  refine bodyPost_ret (v := .tuple #[.agg #[.int .i64 q0, .int .i64 0], .int .i64 1]) ?_ rfl ⟨by rw [hnum.out, hres.out], (hX.set2 hs0 _ _).cells _ _⟩
                  simp [results, Try.results25, go_sem, z0, z1]
                · obtain ⟨q0, hq0⟩ : ∃ q, q = lo (T.1 : Int) := ⟨_, rfl⟩
                  obtain ⟨q1, hq1⟩ : ∃ q, q = hi (T.1 : Int) := ⟨_, rfl⟩
                  have hres : RowKit.Hid (numPart s.data.toList false j T true = (q0, q1, 2)) := Lib.hid (by
                    have hc3 : (decide (0 < L) || decide (s.data.toList.length ≤ A)) = false := by rw [HSZ.out, decide_eq_false c1, decide_eq_false c2]; rfl
                    rw [HL.out, HA.out] at hc3
                    unfold numPart
                    rw [if_neg (by rw [hc3]; exact Bool.false_ne_true), hq0, hq1]
                    rfl)
                  rw [← HX.out] at hq0
                  rw [← HY.out] at hq1
                  subst hq0 hq1
                  go_wp2_with fail
                  have o9 := (o0.set (.int .i64 q0) (.int .i64 q1)).alloc #[.int .i64 q0, .int .i64 q1] 24
                  have z0 := o9.c0
                  have z1 := o9.c1
                  refine bodyPost_ret (v := .tuple #[.agg #[.int .i64 q0, .int .i64 q1], .int .i64 2]) ?_ rfl ⟨by rw [hnum.out, hres.out], (hX.set2 hs0 _ _).cells _ _⟩
                  simp [results, Try.results25, go_sem, z0, z1]
                · obtain ⟨q0, hq0⟩ : ∃ q, q = lo (-(T.1 : Int)) := ⟨_, rfl⟩
                  obtain ⟨q1, hq1⟩ : ∃ q, q = hi (-(T.1 : Int)) := ⟨_, rfl⟩
                  have hres : RowKit.Hid (numPart s.data.toList true j T false = (q0, 0, 1)) := Lib.hid (by
                    have hc3 : (decide (0 < L) || decide (s.data.toList.length ≤ A)) = false := by rw [HSZ.out, decide_eq_false c1, decide_eq_false c2]; rfl
                    rw [HL.out, HA.out] at hc3
                    unfold numPart
                    rw [if_neg (by rw [hc3]; exact Bool.false_ne_true), hq0]
                    rfl)
                  have hx := fun W' => rneg_mk (T.1 : Int) W'
                  rw [← HX.out, ← HY.out, ← hq0, ← hq1] at hx
                  have cN := Lib.hid hx
                  clear hx hq0 hq1
                  go_wp2_with fail
                  refine (cN.out _).mono ?_
                  rintro e w4 ⟨rfl, hx⟩
                  have o0' := (o0.alloc #[.int .i64 x, .int .i64 y] 24).ext hx
                  have o1' := o1.ext hx
                  have hX' := (hX.cells #[.int .i64 x, .int .i64 y] 24).trans hx
                  clear hx g0 g1 r0 r1
                  have p0 := o1'.c0
                  have p1 := o1'.c1
                  have f0 := o1'.f0
                  have f1 := o1'.f1
                  have lt1 := o1'.lt
                  have g0 := o0'.c0
                  have g1 := o0'.c1
                  have r0 := o0'.f0
                  have r1 := o0'.f1
                  have hne : w2.heap.size ≠ w.heap.size := by omega
                  go_upto_region 27 with fail
                  clear p0 p1 f0 f1 lt1 g0 g1 r0 r1
                  have u1 := (o1'.set (.int .i64 q0) (.int .i64 q1)).set1 (.int .i64 0)
                  have u0 := (o0'.other hne (.int .i64 q0) (.int .i64 q1)).other1 (o := 1) hne (.int .i64 0)
                  have hX2 := (hX'.set2 (n := w2.heap.size) hs2 (.int .i64 q0) (.int .i64 q1)).setCell (p := ⟨w2.heap.size, 1, none⟩) hs2 (.int .i64 0)
                  have p0 := u1.c0
                  have p1 := u1.c1
                  have g0 := u0.c0
                  have g1 := u0.c1
                  have r0 := u0.f0
                  have r1 := u0.f1
                  have lt1 := u0.lt
                  go_wp2_with fail
                  have o9 := u0.set (.int .i64 q0) (.int .i64 0)
                  have z0 := o9.c0
                  have z1 := o9.c1
                  refine bodyPost_ret (v := .tuple #[.agg #[.int .i64 q0, .int .i64 0], .int .i64 1]) ?_ rfl ⟨by rw [hnum.out, hres.out], hX2.set2 hs0 _ _⟩
                  simp [results, Try.results25, go_sem, z0, z1]
                · obtain ⟨q0, hq0⟩ : ∃ q, q = lo (-(T.1 : Int)) := ⟨_, rfl⟩
                  obtain ⟨q1, hq1⟩ : ∃ q, q = hi (-(T.1 : Int)) := ⟨_, rfl⟩
                  have hres : RowKit.Hid (numPart s.data.toList true j T true = (q0, q1, 2)) := Lib.hid (by
                    have hc3 : (decide (0 < L) || decide (s.data.toList.length ≤ A)) = false := by rw [HSZ.out, decide_eq_false c1, decide_eq_false c2]; rfl
                    rw [HL.out, HA.out] at hc3
                    unfold numPart
                    rw [if_neg (by rw [hc3]; exact Bool.false_ne_true), hq0, hq1]
                    rfl)
                  have hx := fun W' => rneg_mk (T.1 : Int) W'
                  rw [← HX.out, ← HY.out, ← hq0, ← hq1] at hx
                  have cN := Lib.hid hx
                  clear hx hq0 hq1
                  go_wp2_with fail
                  refine (cN.out _).mono ?_
                  rintro e w4 ⟨rfl, hx⟩
                  have o0' := (o0.alloc #[.int .i64 x, .int .i64 y] 24).ext hx
                  have o1' := o1.ext hx
                  have hX' := (hX.cells #[.int .i64 x, .int .i64 y] 24).trans hx
                  clear hx g0 g1 r0 r1
                  have p0 := o1'.c0
                  have p1 := o1'.c1
                  have f0 := o1'.f0
                  have f1 := o1'.f1
                  have lt1 := o1'.lt
                  have g0 := o0'.c0
                  have g1 := o0'.c1
                  have r0 := o0'.f0
                  have r1 := o0'.f1
                  have hne : w2.heap.size ≠ w.heap.size := by omega
                  go_upto_region 27 with fail
                  clear p0 p1 f0 f1 lt1 g0 g1 r0 r1
                  have u1 := o1'.set (.int .i64 q0) (.int .i64 q1)
                  have u0 := o0'.other hne (.int .i64 q0) (.int .i64 q1)
                  have hX2 := hX'.set2 (n := w2.heap.size) hs2 (.int .i64 q0) (.int .i64 q1)
                  have p0 := u1.c0
                  have p1 := u1.c1
                  have g0 := u0.c0
                  have g1 := u0.c1
                  have r0 := u0.f0
                  have r1 := u0.f1
                  have lt1 := u0.lt
                  go_wp2_with fail
                  have o9 := u0.set (.int .i64 q0) (.int .i64 q1)
                  have z0 := o9.c0
                  have z1 := o9.c1
                  refine bodyPost_ret (v := .tuple #[.agg #[.int .i64 q0, .int .i64 q1], .int .i64 2]) ?_ rfl ⟨by rw [hnum.out, hres.out], hX2.set2 hs0 _ _⟩
                  simp [results, Try.results25, go_sem, z0, z1]
end Go.Proofs.Ytoaijcahjmkkpaa
