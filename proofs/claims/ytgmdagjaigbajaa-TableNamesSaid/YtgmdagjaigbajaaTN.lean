/- Layer 12: facts of the table; words of parts are done at once, and only compiled (TableOnly). Condition: numbers of their kinds. -/
import Derived.Test.YtgmdagjaigbajaaTM
import Derived.Test.YtgmdagjaigbajaaRowIn
namespace Go.Proofs.Ytgmdagjaigbajaa
open Go.RowKit Go.ChangeShapes Go.WideShapes
set_option linter.unusedVariables false

/-- How many of the first j words are of a kind. -/
def cntK (k : Int) (j : Nat) : Nat := ((tab.take j).filter fun x => decide (x.k = k)).length
theorem cntK_step (k : Int) (j : Nat) (h : j < tab.length) : cntK k (j + 1) = cntK k j + if tab[j].k = k then 1 else 0 := by
  unfold cntK
  rw [List.take_succ_eq_append_getElem h, List.filter_append, List.length_append]
  by_cases e : tab[j].k = k <;> simp [e]
theorem cntK_le (k : Int) (j : Nat) : cntK k j ≤ j := by
  unfold cntK
  have h1 := List.length_filter_le (fun x : En => decide (x.k = k)) (tab.take j)
  have h2 : (tab.take j).length ≤ j := by rw [List.length_take]; omega
  omega
theorem only_all : ∀ j : Fin 180, (fun x : En => (x.k = 1 ∧ x.now = false ∧ x.only = false) ∨ (x.k = 2 ∧ x.now = false) ∨ (x.k = 3 ∧ x.now = true ∧ x.only = true) ∨ x.k = 4) (tab[j.val]'(by have := j.isLt; rw [tab_len]; omega)) := by decide +kernel
theorem num_all : ∀ j : Fin 180, (fun x : En => x.n = cntK x.k (j.val + 1)) (tab[j.val]'(by have := j.isLt; rw [tab_len]; omega)) := by decide +kernel
theorem cnt_1 : cntK 1 180 = 107 := by decide +kernel
theorem cnt_2 : cntK 2 180 = 9 := by decide +kernel
theorem cnt_3 : cntK 3 180 = 17 := by decide +kernel
theorem cnt_4 : cntK 4 180 = 47 := by decide +kernel
theorem names_ne (k : Int) : ∀ s ∈ namesK k, s ≠ [] := by
  unfold namesK
  repeat' split
  all_goals decide +kernel
theorem nameT_ne {k n : Int} (h1 : 1 ≤ n) (h2 : n ≤ (namesK k).length) : nameT k n ≠ [] := by
  obtain ⟨j, hj⟩ : ∃ j : Nat, n = (j : Int) + 1 := ⟨(n - 1).toNat, by omega⟩
  have hjl : j < (namesK k).length := by omega
  rw [nameT_get hj hjl]
  exact names_ne k _ (List.getElem_mem hjl)
theorem nameT_no {k n : Int} (h : namesK k = []) : nameT k n = [] := by
  unfold nameT
  rw [h]
  by_cases h1 : n < 1
  · rw [if_pos (Or.inl h1)]
  · rw [if_pos (Or.inr (by simp; omega))]
theorem str_nil : (str []).toList.isEmpty = true := by rw [ByteArray.toList_eq]; rfl
set_option maxHeartbeats 16000000 in
set_option maxRecDepth 100000 in
theorem only_walk (w : World) (b : Int) (hb : (Lit.int .u8 b).wf = true) (n : Int) (hn : (Lit.int .i64 n).wf = true) :
    Calls Try.prog 5 #[.int .u8 b, .int .i64 n] w fun e w' => e = .returned (.bool true) ∧ Mod [] w w' := by
  have H0 := Lib.hid (shown_calls w)
  have A1 := Lib.hid (fun W => all_calls W)
  have NN := Lib.hid (fun k W => name_calls k n (i64_of_wf hn) W)
  have hb2 := bounds_u8 hb
  obtain ⟨m, hm⟩ := Int.eq_ofNat_of_zero_le (show 0 ≤ b % 4 by omega)
  have hm2 : b.tmod 4 = (m : Int) := by rw [Int.tmod_eq_emod_of_nonneg (by omega)]; exact hm
  have hm4 : m < 4 := by omega
  have hm5 : (m : Int) < 4 := by omega
  clear hb hm hn
  go_enter Try.func5, Try.ntmps5
  go_wp2_with fail
  refine (H0.out).mono ?_
  rintro e w1 ⟨rfl, m1⟩
  have M1 := Lib.hid m1
  clear m1
  go_wp2_with fail
  refine (A1.out _).mono ?_
  rintro e w2 ⟨v1, rfl, e1, m2⟩
  obtain ⟨B1, c1, rfl, t1⟩ := e1.at
  rw [tab_len]
  have M2 := Lib.hid (M1.out.trans m2)
  have T2 := Lib.hid t1
  clear e1 t1 m2
  go_wp2_with fail
  obtain ⟨k, hk⟩ : ∃ k, k = (m : Int) + 1 := ⟨_, rfl⟩
  rw [← hk]
  have HK := Lib.hid (And.intro hk hm4)
  clear hk
  go_loopw [7, 18] (fun v y wr => ∃ j : Nat, v = .int .i64 (cntK k j : Int) ∧ y = .int .i64 (j : Int) ∧ j ≤ 180 ∧ RowKit.Hid (Mod [] w2 wr)) (fun _ y _ => 181 - (intOf y).toNat)
  case atStart => exact ⟨0, rfl, rfl, by omega, Lib.hid (Mod.refl _ _)⟩
  case round =>
    obtain ⟨j, rfl, rfl, hj, hi⟩ := hrel
    have h2 := hi.out
    by_cases hlt : j < 180
    · have hjI : (j : Int) < 180 := by omega
      have hjX : j < tab.length := by rw [tab_len]; exact hlt
      obtain ⟨d, rfl, g0, g1, g2, g3, g4⟩ := (T2.out.far h2) j hjX
      have hstep := cntK_step k j hjX
      have hal := only_all ⟨j, hlt⟩
      have hnum := num_all ⟨j, hlt⟩
      simp only at hal hnum
      generalize tab[j] = x at *
      have hcl := cntK_le k j
      obtain ⟨c, hc⟩ : ∃ c, c = cntK k j := ⟨_, rfl⟩
      rw [← hc] at hstep hcl ⊢
      obtain ⟨c2, hc2⟩ : ∃ c, c = cntK k (j + 1) := ⟨_, rfl⟩
      have HC2 := Lib.hid hc2
      rw [← hc2] at hstep
      have hnk : x.k = k → x.n = c2 := fun e => by rw [hnum, e, hc2]
      obtain ⟨N, hN⟩ : ∃ N, N = str x.s := ⟨_, rfl⟩
      rw [← hN] at g0
      obtain ⟨xk, hxk⟩ : ∃ y, y = x.k := ⟨_, rfl⟩
      obtain ⟨xn, hxn⟩ : ∃ y, y = x.n := ⟨_, rfl⟩
      obtain ⟨xa, hxa⟩ : ∃ y, y = x.now := ⟨_, rfl⟩
      obtain ⟨xb, hxb⟩ : ∃ y, y = x.only := ⟨_, rfl⟩
      rw [← hxk] at g1 hstep hal hnk
      rw [← hxn] at g2 hnk
      rw [← hxa] at g3 hal
      rw [← hxb] at g4 hal
      have m3 : Mod [] wr (wr.alloc (.cells #[.string N, .int .i64 xk, .int .i64 (xn : Int), .bool xa, .bool xb] 24)) := (Mod.refl [] wr).alloc _
      have M3 := Lib.hid (h2.trans m3)
      have b5 := Lib.hid (Bx5.new wr (.string N) (.int .i64 xk) (.int .i64 (xn : Int)) (.bool xa) (.bool xb) 24)
      clear hi h2 hN hxk hxn hxa hxb hnum hc2 hc m3
      go_upto_region 7 with fail
      generalize wr.alloc (.cells #[.string N, .int .i64 xk, .int .i64 (xn : Int), .bool xa, .bool xb] 24) = w3 at *
      obtain ⟨p, hp⟩ : ∃ p, p = wr.heap.size := ⟨_, rfl⟩
      rw [← hp] at b5 ⊢
      clear hp g0 g1 g2 g3 g4
      obtain ⟨g0, g1, g2, g3, g4, _, _⟩ := b5.out
      clear b5
      by_cases hkk : xk = k
      · have e1 := hnk hkk
        rw [if_pos hkk] at hstep
        subst hkk
        subst e1
        subst hstep
        have hw1 : wrap64 ((c : Int) + 1) = ((c + 1 : Nat) : Int) := by rw [IntWalk.wrap64_in _ (by omega)]; rfl
        clear hnk
        rcases hal with ⟨rfl, rfl, rfl⟩ | ⟨rfl, rfl⟩ | ⟨rfl, rfl, rfl⟩ | rfl
        all_goals
          go_wp2_with fail
          go_roundw
          case rel => exact ⟨j + 1, by rw [← HC2.out]; rfl, by go_num, by omega, M3⟩
          case measure => simp [intOf]; omega
      · rw [if_neg hkk, Nat.add_zero] at hstep
        subst hstep
        have e0 : (xk == k) = false := by rw [beq_eq_false_iff_ne]; exact hkk
        clear hnk hkk
        rcases hal with ⟨rfl, rfl, rfl⟩ | ⟨rfl, rfl⟩ | ⟨rfl, rfl, rfl⟩ | rfl
        all_goals
          go_wp2_with fail
          go_roundw
          case rel => exact ⟨j + 1, by rw [← HC2.out], by go_num, by omega, M3⟩
          case measure => simp [intOf]; omega
    · have hjI : ¬ (j : Int) < 180 := by omega
      have e4 : j = 180 := by omega
      subst e4
      have M7 := Lib.hid (M2.out.trans h2)
      clear hi h2 hlt
      obtain ⟨q1, q2⟩ := HK.out
      obtain ⟨E, hE⟩ : ∃ E, E = str [] := ⟨_, rfl⟩
      have hEE : E.toList.isEmpty = true := by rw [hE]; exact str_nil
      obtain rfl | rfl | rfl | rfl : m = 0 ∨ m = 1 ∨ m = 2 ∨ m = 3 := by omega
      · obtain rfl : k = 1 := q1.trans rfl
        rw [cnt_1]
        have Z1 := Lib.hid (fun W => NN.out 1 W)
        have Z2 := Lib.hid (fun W => NN.out 5 W)
        have Z3 := Lib.hid (fun W => NN.out 0 W)
        rw [nameT_no (show namesK 5 = [] from rfl), ← hE] at Z2
        rw [nameT_no (show namesK 0 = [] from rfl), ← hE] at Z3
        obtain ⟨Z, hZ⟩ : ∃ Z, Z = str (nameT 1 n) := ⟨_, rfl⟩
        rw [← hZ] at Z1
        clear HK q1 hE
        by_cases d : n < 1
        · have hz : Z.toList.isEmpty = true := by rw [hZ, nameT_low d]; exact str_nil
          have d1 : decide (n < 1) = true := decide_eq_true d
          clear hZ d
          go_wp2_with fail
          refine (Z1.out _).mono ?_
          rintro e w8 ⟨rfl, m8⟩
          have M8 := Lib.hid (M7.out.trans (((Mod.refl [] wr).alloc (.cells #[.int .i64 107, .int .i64 9, .int .i64 17, .int .i64 47] 3)).trans m8))
          clear m8
          go_wp2_with fail
          refine (Z2.out _).mono ?_
          rintro e w9 ⟨rfl, m9⟩
          have M9 := Lib.hid (M8.out.trans m9)
          clear m9
          go_wp2_with fail
          refine (Z3.out _).mono ?_
          rintro e w10 ⟨rfl, m10⟩
          have M10 := Lib.hid (M9.out.trans m10)
          clear m10
          go_wp2_with fail
          go_ret
          exact ⟨rfl, M10.out⟩
        · by_cases d' : 107 < n
          · have hz : Z.toList.isEmpty = true := by rw [hZ, nameT_far (show ((namesK 1).length : Int) < n from d')]; exact str_nil
            have d1 : decide (n < 1) = false := decide_eq_false d
            have d2 : decide (107 < n) = true := decide_eq_true d'
            clear hZ d d'
            go_wp2_with fail
            refine (Z1.out _).mono ?_
            rintro e w8 ⟨rfl, m8⟩
            have M8 := Lib.hid (M7.out.trans (((Mod.refl [] wr).alloc (.cells #[.int .i64 107, .int .i64 9, .int .i64 17, .int .i64 47] 3)).trans m8))
            clear m8
            go_wp2_with fail
            refine (Z2.out _).mono ?_
            rintro e w9 ⟨rfl, m9⟩
            have M9 := Lib.hid (M8.out.trans m9)
            clear m9
            go_wp2_with fail
            refine (Z3.out _).mono ?_
            rintro e w10 ⟨rfl, m10⟩
            have M10 := Lib.hid (M9.out.trans m10)
            clear m10
            go_wp2_with fail
            go_ret
            exact ⟨rfl, M10.out⟩
          · have hz : Z.toList.isEmpty = false := by rw [hZ]; exact str_ne (nameT_ne (by omega) (show n ≤ ((namesK 1).length : Int) from by show n ≤ 107; omega))
            have d1 : decide (n < 1) = false := decide_eq_false d
            have d2 : decide (107 < n) = false := decide_eq_false d'
            clear hZ d d'
            go_wp2_with fail
            refine (Z1.out _).mono ?_
            rintro e w8 ⟨rfl, m8⟩
            have M8 := Lib.hid (M7.out.trans (((Mod.refl [] wr).alloc (.cells #[.int .i64 107, .int .i64 9, .int .i64 17, .int .i64 47] 3)).trans m8))
            clear m8
            go_wp2_with fail
            refine (Z2.out _).mono ?_
            rintro e w9 ⟨rfl, m9⟩
            have M9 := Lib.hid (M8.out.trans m9)
            clear m9
            go_wp2_with fail
            refine (Z3.out _).mono ?_
            rintro e w10 ⟨rfl, m10⟩
            have M10 := Lib.hid (M9.out.trans m10)
            clear m10
            go_wp2_with fail
            go_ret
            exact ⟨rfl, M10.out⟩
      · obtain rfl : k = 2 := q1.trans rfl
        rw [cnt_2]
        have Z1 := Lib.hid (fun W => NN.out 2 W)
        have Z2 := Lib.hid (fun W => NN.out 6 W)
        have Z3 := Lib.hid (fun W => NN.out 0 W)
        rw [nameT_no (show namesK 6 = [] from rfl), ← hE] at Z2
        rw [nameT_no (show namesK 0 = [] from rfl), ← hE] at Z3
        obtain ⟨Z, hZ⟩ : ∃ Z, Z = str (nameT 2 n) := ⟨_, rfl⟩
        rw [← hZ] at Z1
        clear HK q1 hE
        by_cases d : n < 1
        · have hz : Z.toList.isEmpty = true := by rw [hZ, nameT_low d]; exact str_nil
          have d1 : decide (n < 1) = true := decide_eq_true d
          clear hZ d
          go_wp2_with fail
          refine (Z1.out _).mono ?_
          rintro e w8 ⟨rfl, m8⟩
          have M8 := Lib.hid (M7.out.trans (((Mod.refl [] wr).alloc (.cells #[.int .i64 107, .int .i64 9, .int .i64 17, .int .i64 47] 3)).trans m8))
          clear m8
          go_wp2_with fail
          refine (Z2.out _).mono ?_
          rintro e w9 ⟨rfl, m9⟩
          have M9 := Lib.hid (M8.out.trans m9)
          clear m9
          go_wp2_with fail
          refine (Z3.out _).mono ?_
          rintro e w10 ⟨rfl, m10⟩
          have M10 := Lib.hid (M9.out.trans m10)
          clear m10
          go_wp2_with fail
          go_ret
          exact ⟨rfl, M10.out⟩
        · by_cases d' : 9 < n
          · have hz : Z.toList.isEmpty = true := by rw [hZ, nameT_far (show ((namesK 2).length : Int) < n from d')]; exact str_nil
            have d1 : decide (n < 1) = false := decide_eq_false d
            have d2 : decide (9 < n) = true := decide_eq_true d'
            clear hZ d d'
            go_wp2_with fail
            refine (Z1.out _).mono ?_
            rintro e w8 ⟨rfl, m8⟩
            have M8 := Lib.hid (M7.out.trans (((Mod.refl [] wr).alloc (.cells #[.int .i64 107, .int .i64 9, .int .i64 17, .int .i64 47] 3)).trans m8))
            clear m8
            go_wp2_with fail
            refine (Z2.out _).mono ?_
            rintro e w9 ⟨rfl, m9⟩
            have M9 := Lib.hid (M8.out.trans m9)
            clear m9
            go_wp2_with fail
            refine (Z3.out _).mono ?_
            rintro e w10 ⟨rfl, m10⟩
            have M10 := Lib.hid (M9.out.trans m10)
            clear m10
            go_wp2_with fail
            go_ret
            exact ⟨rfl, M10.out⟩
          · have hz : Z.toList.isEmpty = false := by rw [hZ]; exact str_ne (nameT_ne (by omega) (show n ≤ ((namesK 2).length : Int) from by show n ≤ 9; omega))
            have d1 : decide (n < 1) = false := decide_eq_false d
            have d2 : decide (9 < n) = false := decide_eq_false d'
            clear hZ d d'
            go_wp2_with fail
            refine (Z1.out _).mono ?_
            rintro e w8 ⟨rfl, m8⟩
            have M8 := Lib.hid (M7.out.trans (((Mod.refl [] wr).alloc (.cells #[.int .i64 107, .int .i64 9, .int .i64 17, .int .i64 47] 3)).trans m8))
            clear m8
            go_wp2_with fail
            refine (Z2.out _).mono ?_
            rintro e w9 ⟨rfl, m9⟩
            have M9 := Lib.hid (M8.out.trans m9)
            clear m9
            go_wp2_with fail
            refine (Z3.out _).mono ?_
            rintro e w10 ⟨rfl, m10⟩
            have M10 := Lib.hid (M9.out.trans m10)
            clear m10
            go_wp2_with fail
            go_ret
            exact ⟨rfl, M10.out⟩
      · obtain rfl : k = 3 := q1.trans rfl
        rw [cnt_3]
        have Z1 := Lib.hid (fun W => NN.out 3 W)
        have Z2 := Lib.hid (fun W => NN.out 7 W)
        have Z3 := Lib.hid (fun W => NN.out 0 W)
        rw [nameT_no (show namesK 7 = [] from rfl), ← hE] at Z2
        rw [nameT_no (show namesK 0 = [] from rfl), ← hE] at Z3
        obtain ⟨Z, hZ⟩ : ∃ Z, Z = str (nameT 3 n) := ⟨_, rfl⟩
        rw [← hZ] at Z1
        clear HK q1 hE
        by_cases d : n < 1
        · have hz : Z.toList.isEmpty = true := by rw [hZ, nameT_low d]; exact str_nil
          have d1 : decide (n < 1) = true := decide_eq_true d
          clear hZ d
          go_wp2_with fail
          refine (Z1.out _).mono ?_
          rintro e w8 ⟨rfl, m8⟩
          have M8 := Lib.hid (M7.out.trans (((Mod.refl [] wr).alloc (.cells #[.int .i64 107, .int .i64 9, .int .i64 17, .int .i64 47] 3)).trans m8))
          clear m8
          go_wp2_with fail
          refine (Z2.out _).mono ?_
          rintro e w9 ⟨rfl, m9⟩
          have M9 := Lib.hid (M8.out.trans m9)
          clear m9
          go_wp2_with fail
          refine (Z3.out _).mono ?_
          rintro e w10 ⟨rfl, m10⟩
          have M10 := Lib.hid (M9.out.trans m10)
          clear m10
          go_wp2_with fail
          go_ret
          exact ⟨rfl, M10.out⟩
        · by_cases d' : 17 < n
          · have hz : Z.toList.isEmpty = true := by rw [hZ, nameT_far (show ((namesK 3).length : Int) < n from d')]; exact str_nil
            have d1 : decide (n < 1) = false := decide_eq_false d
            have d2 : decide (17 < n) = true := decide_eq_true d'
            clear hZ d d'
            go_wp2_with fail
            refine (Z1.out _).mono ?_
            rintro e w8 ⟨rfl, m8⟩
            have M8 := Lib.hid (M7.out.trans (((Mod.refl [] wr).alloc (.cells #[.int .i64 107, .int .i64 9, .int .i64 17, .int .i64 47] 3)).trans m8))
            clear m8
            go_wp2_with fail
            refine (Z2.out _).mono ?_
            rintro e w9 ⟨rfl, m9⟩
            have M9 := Lib.hid (M8.out.trans m9)
            clear m9
            go_wp2_with fail
            refine (Z3.out _).mono ?_
            rintro e w10 ⟨rfl, m10⟩
            have M10 := Lib.hid (M9.out.trans m10)
            clear m10
            go_wp2_with fail
            go_ret
            exact ⟨rfl, M10.out⟩
          · have hz : Z.toList.isEmpty = false := by rw [hZ]; exact str_ne (nameT_ne (by omega) (show n ≤ ((namesK 3).length : Int) from by show n ≤ 17; omega))
            have d1 : decide (n < 1) = false := decide_eq_false d
            have d2 : decide (17 < n) = false := decide_eq_false d'
            clear hZ d d'
            go_wp2_with fail
            refine (Z1.out _).mono ?_
            rintro e w8 ⟨rfl, m8⟩
            have M8 := Lib.hid (M7.out.trans (((Mod.refl [] wr).alloc (.cells #[.int .i64 107, .int .i64 9, .int .i64 17, .int .i64 47] 3)).trans m8))
            clear m8
            go_wp2_with fail
            refine (Z2.out _).mono ?_
            rintro e w9 ⟨rfl, m9⟩
            have M9 := Lib.hid (M8.out.trans m9)
            clear m9
            go_wp2_with fail
            refine (Z3.out _).mono ?_
            rintro e w10 ⟨rfl, m10⟩
            have M10 := Lib.hid (M9.out.trans m10)
            clear m10
            go_wp2_with fail
            go_ret
            exact ⟨rfl, M10.out⟩
      · obtain rfl : k = 4 := q1.trans rfl
        rw [cnt_4]
        have Z1 := Lib.hid (fun W => NN.out 4 W)
        have Z2 := Lib.hid (fun W => NN.out 8 W)
        have Z3 := Lib.hid (fun W => NN.out 0 W)
        rw [nameT_no (show namesK 8 = [] from rfl), ← hE] at Z2
        rw [nameT_no (show namesK 0 = [] from rfl), ← hE] at Z3
        obtain ⟨Z, hZ⟩ : ∃ Z, Z = str (nameT 4 n) := ⟨_, rfl⟩
        rw [← hZ] at Z1
        clear HK q1 hE
        by_cases d : n < 1
        · have hz : Z.toList.isEmpty = true := by rw [hZ, nameT_low d]; exact str_nil
          have d1 : decide (n < 1) = true := decide_eq_true d
          clear hZ d
          go_wp2_with fail
          refine (Z1.out _).mono ?_
          rintro e w8 ⟨rfl, m8⟩
          have M8 := Lib.hid (M7.out.trans (((Mod.refl [] wr).alloc (.cells #[.int .i64 107, .int .i64 9, .int .i64 17, .int .i64 47] 3)).trans m8))
          clear m8
          go_wp2_with fail
          refine (Z2.out _).mono ?_
          rintro e w9 ⟨rfl, m9⟩
          have M9 := Lib.hid (M8.out.trans m9)
          clear m9
          go_wp2_with fail
          refine (Z3.out _).mono ?_
          rintro e w10 ⟨rfl, m10⟩
          have M10 := Lib.hid (M9.out.trans m10)
          clear m10
          go_wp2_with fail
          go_ret
          exact ⟨rfl, M10.out⟩
        · by_cases d' : 47 < n
          · have hz : Z.toList.isEmpty = true := by rw [hZ, nameT_far (show ((namesK 4).length : Int) < n from d')]; exact str_nil
            have d1 : decide (n < 1) = false := decide_eq_false d
            have d2 : decide (47 < n) = true := decide_eq_true d'
            clear hZ d d'
            go_wp2_with fail
            refine (Z1.out _).mono ?_
            rintro e w8 ⟨rfl, m8⟩
            have M8 := Lib.hid (M7.out.trans (((Mod.refl [] wr).alloc (.cells #[.int .i64 107, .int .i64 9, .int .i64 17, .int .i64 47] 3)).trans m8))
            clear m8
            go_wp2_with fail
            refine (Z2.out _).mono ?_
            rintro e w9 ⟨rfl, m9⟩
            have M9 := Lib.hid (M8.out.trans m9)
            clear m9
            go_wp2_with fail
            refine (Z3.out _).mono ?_
            rintro e w10 ⟨rfl, m10⟩
            have M10 := Lib.hid (M9.out.trans m10)
            clear m10
            go_wp2_with fail
            go_ret
            exact ⟨rfl, M10.out⟩
          · have hz : Z.toList.isEmpty = false := by rw [hZ]; exact str_ne (nameT_ne (by omega) (show n ≤ ((namesK 4).length : Int) from by show n ≤ 47; omega))
            have d1 : decide (n < 1) = false := decide_eq_false d
            have d2 : decide (47 < n) = false := decide_eq_false d'
            clear hZ d d'
            go_wp2_with fail
            refine (Z1.out _).mono ?_
            rintro e w8 ⟨rfl, m8⟩
            have M8 := Lib.hid (M7.out.trans (((Mod.refl [] wr).alloc (.cells #[.int .i64 107, .int .i64 9, .int .i64 17, .int .i64 47] 3)).trans m8))
            clear m8
            go_wp2_with fail
            refine (Z2.out _).mono ?_
            rintro e w9 ⟨rfl, m9⟩
            have M9 := Lib.hid (M8.out.trans m9)
            clear m9
            go_wp2_with fail
            refine (Z3.out _).mono ?_
            rintro e w10 ⟨rfl, m10⟩
            have M10 := Lib.hid (M9.out.trans m10)
            clear m10
            go_wp2_with fail
            go_ret
            exact ⟨rfl, M10.out⟩
end Go.Proofs.Ytgmdagjaigbajaa
