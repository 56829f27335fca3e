/- Layer 10: InsJumps, walked. Condition: the table reads as the program's text lays it. -/
import Derived.Test.YtheealjhmndbgaaDoorIZE
namespace Go.Proofs.YtheealjhmndbgaaDoor
open Go.RowKit
set_option linter.unusedVariables false

theorem i8_small (a : Int) (h1 : -40 ≤ a) (h2 : a ≤ 40) : IntKind.i8.wrap a = a := by
  simp only [IntKind.wrap, IntKind.bits, IntKind.signed]
  simp
  omega
theorem jm_all {K : List Xi} {n : Int} (hn : n = (K.length : Int) + 1) : (∀ i x, i < K.length + 1 → (jmL K)[i]? = some x → 0 ≤ x.a ∧ x.a < n) ↔ InJ K := by
  constructor
  · intro h x hx
    obtain ⟨i, hi, rfl⟩ := List.getElem_of_mem hx
    have := h i K[i] (by omega) (by unfold jmL; rw [List.getElem?_append_left hi]; exact List.getElem?_eq_getElem hi)
    omega
  · intro h i x _ hx
    rcases jm_get hx with ⟨_, h2⟩ | ⟨_, rfl⟩
    · have := h x h2
      omega
    · simp only
      omega
set_option maxHeartbeats 8000000 in
set_option maxRecDepth 100000 in
theorem jumps_walk {w : World} (g : Good w) {A0 : Option Addr} {n0 cap0 : Nat} {Z : List Int} (hZ : SmallIn w A0 n0 Z) {A1 : Option Addr} {n1 cap1 : Nat} {B : List Bool} (hB : BoolsIn w A1 n1 B) :
    Calls Tryd.prog 8 #[.slice A0 n0 cap0, .slice A1 n1 cap1] w fun e w' => e = .returned (.bool true) ∧ Mod [] w w' := by
  have H1 := Lib.hid (shown_calls g)
  have HG := Lib.hid g
  have HZ := Lib.hid hZ
  have HB := Lib.hid hB
  have hn0 : (n0 : Int) ≤ 9223372036854775807 := by have := hZ.2.1; omega
  have hn1 : (n1 : Int) ≤ 9223372036854775807 := by have := hB.2.1; omega
  clear g hZ hB
  go_enter Tryd.func8, Tryd.ntmps8
  go_wp2_with fail
  refine (H1.out).mono ?_
  rintro e w1 ⟨rfl, hm1⟩
  have HM1 := Lib.hid hm1
  have HS := Lib.hid (Xm.nil w1)
  clear hm1
  go_wp2_with fail
  go_loopg [6, 20] n0 (fun g z y wr => ∃ (i : Nat) (A : Option Addr) (n cap : Nat) (K : List Xi), z = .slice A n cap ∧ y = .int .i64 (i : Int) ∧ i + g = n0 ∧ RowKit.Hid (Xm w1 wr (.slice A n cap) K ∧ AllJ K ∧ K.length ≤ 40 ∧ K.length ≤ i))
  case atStart => exact ⟨0, _, _, _, [], rfl, rfl, by omega, Lib.hid ⟨HS.out, fun x hx => (by cases hx), by simp, by simp⟩⟩
  case round =>
    clear HS
    obtain ⟨i, A, n, cap, K, rfl, rfl, hig, hi⟩ := hrel
    by_cases hlt : i < n0
    · have hltI : (i : Int) < (n0 : Int) := by omega
      have HK := Lib.hid hig
      obtain ⟨⟨x0, rfl, hcz⟩, hz1, hz2⟩ := HZ.out.2.2 i (by have := HZ.out.1; omega)
      obtain ⟨z, hz⟩ : ∃ z, z = Z[i]'(by have := HZ.out.1; omega) := ⟨_, rfl⟩
      rw [← hz] at hcz hz1 hz2
      replace hcz := (HM1.out.trans hi.out.1.m).cell (by simp) hcz
      by_cases h40 : i < 40
      · have h40I : (i : Int) < 40 := by omega
        obtain ⟨a, ha⟩ : ∃ a, a = z.tmod 41 := ⟨_, rfl⟩
        have hab : -40 ≤ a ∧ a ≤ 40 := by
          rw [ha]
          have h1 := Int.tmod_lt_of_pos z (show (0 : Int) < 41 by decide)
          have h2 := Int.lt_tmod_of_pos z (show (0 : Int) < 41 by decide)
          omega
        have ha1 := ha.symm
        have ha2 : IntKind.i8.wrap a = a := i8_small a hab.1 hab.2
        have ha3 : IntKind.i64.wrap a = a := by rw [IntKind.wrap_i64]; omega
        have happ : ∀ op : Nat, op = 3 ∨ op = 4 → ∃ A2 n2 cap2 w2, (appIns 22 #[.slice A n cap, .slice (some ⟨wr.heap.size, 0, none⟩) 1 1]).run Tryd.prog (wr.alloc (.cells #[.int .u8 (op : Int), .int .i64 a, .int .i64 0] 36)) = .ok (.slice A2 n2 cap2) w2 ∧ RowKit.Hid (Xm w1 w2 (.slice A2 n2 cap2) (K ++ [⟨op, a, 0⟩]) ∧ AllJ (K ++ [⟨op, a, 0⟩]) ∧ (K ++ [(⟨op, a, 0⟩ : Xi)]).length ≤ 40 ∧ (K ++ [(⟨op, a, 0⟩ : Xi)]).length ≤ i + 1) := fun op hop => by
          obtain ⟨A2, n2, cap2, w2, e2, _, hX2⟩ := hi.out.1.app (by have := hi.out.2.2.1; omega) ⟨op, a, 0⟩ ⟨by simp only; omega, by unfold I64; simp only; omega, by unfold I64; simp only; omega⟩
          refine ⟨A2, n2, cap2, w2, e2, Lib.hid ⟨hX2, fun x hx => ?_, ?_, ?_⟩⟩
          · rcases List.mem_append.1 hx with hx | hx
            · exact hi.out.2.1 x hx
            · rw [List.mem_singleton.1 hx]; exact ⟨hop, rfl⟩
          · have := hi.out.2.2.2; rw [List.length_append, List.length_singleton]; omega
          · have := hi.out.2.2.2; rw [List.length_append, List.length_singleton]; omega
        by_cases hq : i < n1
        · have hqI : (i : Int) < (n1 : Int) := by omega
          obtain ⟨x1, rfl, hcb⟩ := HB.out.2.2 i (by have := HB.out.1; omega)
          replace hcb := (HM1.out.trans hi.out.1.m).cell (by simp) hcb
          obtain ⟨bb, hbb⟩ : ∃ bb, bb = B[i]'(by have := HB.out.1; omega) := ⟨_, rfl⟩
          rw [← hbb] at hcb
          cases bb with
          | true =>
            obtain ⟨A2, n2, cap2, w2, e2, HX2⟩ := happ 4 (Or.inr rfl)
            replace e2 : (appIns 22 #[.slice A n cap, .slice (some ⟨wr.heap.size, 0, none⟩) 1 1]).run Tryd.prog (wr.alloc (.cells #[.int .u8 4, .int .i64 a, .int .i64 0] 36)) = .ok (.slice A2 n2 cap2) w2 := e2
            clear hi hig hz ha happ hbb hz1 hz2 hab
            go_wp2_with fail
            go_roundg (gk - 1)
            case measure => have := HK.out; omega
            case rel => exact ⟨i + 1, A2, n2, cap2, _, rfl, by go_num, by have := HK.out; omega, HX2⟩
          | false =>
            obtain ⟨A2, n2, cap2, w2, e2, HX2⟩ := happ 3 (Or.inl rfl)
            replace e2 : (appIns 22 #[.slice A n cap, .slice (some ⟨wr.heap.size, 0, none⟩) 1 1]).run Tryd.prog (wr.alloc (.cells #[.int .u8 3, .int .i64 a, .int .i64 0] 36)) = .ok (.slice A2 n2 cap2) w2 := e2
            clear hi hig hz ha happ hbb hz1 hz2 hab
            go_wp2_with fail
            go_roundg (gk - 1)
            case measure => have := HK.out; omega
            case rel => exact ⟨i + 1, A2, n2, cap2, _, rfl, by go_num, by have := HK.out; omega, HX2⟩
        · have hqI : ¬ (i : Int) < (n1 : Int) := by omega
          obtain ⟨A2, n2, cap2, w2, e2, HX2⟩ := happ 3 (Or.inl rfl)
          replace e2 : (appIns 22 #[.slice A n cap, .slice (some ⟨wr.heap.size, 0, none⟩) 1 1]).run Tryd.prog (wr.alloc (.cells #[.int .u8 3, .int .i64 a, .int .i64 0] 36)) = .ok (.slice A2 n2 cap2) w2 := e2
          clear hi hig hz ha happ hz1 hz2 hab
          go_wp2_with fail
          go_roundg (gk - 1)
          case measure => have := HK.out; omega
          case rel => exact ⟨i + 1, A2, n2, cap2, _, rfl, by go_num, by have := HK.out; omega, HX2⟩
      · have h40I : ¬ (i : Int) < 40 := by omega
        have HI := Lib.hid hi.out
        clear hi hig hz hz1 hz2
        go_wp2_with fail
        go_roundg (gk - 1)
        case measure => have := HK.out; omega
        case rel => exact ⟨i + 1, A, n, cap, K, rfl, by go_num, by have := HK.out; omega, Lib.hid ⟨HI.out.1, HI.out.2.1, HI.out.2.2.1, by have := HI.out.2.2.2; omega⟩⟩
    · have hltI : ¬ (i : Int) < (n0 : Int) := by omega
      have hKw := hi.out
      obtain ⟨A2, n2, cap2, w2, e2, hdrop, hX2⟩ := hi.out.1.app (by have := hi.out.2.2.1; omega) ⟨15, 0, 0⟩ ⟨by decide, by unfold I64; decide, by unfold I64; decide⟩
      replace e2 : (appIns 22 #[.slice A n cap, .slice (some ⟨wr.heap.size, 0, none⟩) 1 1]).run Tryd.prog (wr.alloc (.cells #[.int .u8 15, .int .i64 0, .int .i64 0] 36)) = .ok (.slice A2 n2 cap2) w2 := e2
      clear hdrop
      replace hX2 : Xm w1 w2 (.slice A2 n2 cap2) (jmL K) := hX2
      obtain ⟨kn, hkn⟩ : ∃ kn, kn = K.length := ⟨_, rfl⟩
      obtain rfl : n2 = kn + 1 := by rw [hX2.row.len.1, jm_len, hkn]
      obtain ⟨g2, rfl⟩ := hX2.block (by rw [jm_len]; omega)
      have HKK := Lib.hid (And.intro hkn (And.intro hi.out.2.1 (show kn ≤ 40 by rw [hkn]; exact hi.out.2.2.1)))
      have HX2 := Lib.hid hX2
      have HTL := Lib.hid (show kn + 1 = (jmL K).length ∧ kn + 1 ≤ 1000000 from ⟨by rw [jm_len, hkn], by have := hi.out.2.2.1; omega⟩)
      have hknI : (kn : Int) ≤ 40 := by have := hi.out.2.2.1; omega
      clear hi hig hlt hKw hX2 hkn
      go_wp2_with fail
      go_loopg [7, 52] (kn + 1) (fun g z y wr => ∃ (j : Nat) (c : Bool), z = .bool c ∧ y = .int .i64 (j : Int) ∧ j + g = kn + 1 ∧ RowKit.Hid (Mod [] w2 wr ∧ (c = true ↔ ∀ i x, i < j → (jmL K)[i]? = some x → 0 ≤ x.a ∧ x.a < (kn : Int) + 1)))
      case atStart => exact ⟨0, true, rfl, rfl, by omega, Lib.hid ⟨Mod.refl [] _, fun _ i x h => by omega, fun _ => rfl⟩⟩
      case round =>
        obtain ⟨j, c, rfl, rfl, hjg, hj⟩ := hrel
        by_cases hlt : j < kn + 1
        · have hltJ : (j : Int) < (kn : Int) + 1 := by omega
          obtain ⟨x, hx⟩ : ∃ x, (jmL K)[j]? = some x := ⟨_, List.getElem?_eq_getElem (by rw [← HTL.out.1]; exact hlt)⟩
          obtain ⟨b5, o5, e5, hat, _⟩ := (HX2.out.ins.far hj.out.1).get hx
          obtain ⟨rfl, rfl⟩ : g2 = b5 ∧ 0 = o5 := by injection e5 with e5; injection e5 with e6 e7; exact ⟨e6, e7⟩
          rw [Nat.zero_add] at hat
          have hc0 := hat.c0
          have hc1 := hat.c1
          have hc2 := hat.c2
          have HJ := Lib.hid hj.out
          have HGJ := Lib.hid hjg
          have HXJ := Lib.hid hx
          have hstep : ∀ r : Bool, (r = true ↔ (0 ≤ x.a ∧ x.a < (kn : Int) + 1)) → ((c && r) = true ↔ ∀ i y, i < j + 1 → (jmL K)[i]? = some y → 0 ≤ y.a ∧ y.a < (kn : Int) + 1) := fun r hr => by
            rw [Bool.and_eq_true, hr, HJ.out.2]
            constructor
            · rintro ⟨h1, h2⟩ i y hi hy
              by_cases e : i = j
              · subst e
                have := HXJ.out
                rw [hy] at this
                injection this with this
                subst this
                exact h2
              · exact h1 i y (by omega) hy
            · exact fun h => ⟨fun i y hi hy => h i y (by omega) hy, h j x (by omega) HXJ.out⟩
          have HST := Lib.hid hstep
          clear hj hjg hx hat e5 hstep
          cases c with
          | false =>
            have hres := HST.out (decide (0 ≤ x.a ∧ x.a < (kn : Int) + 1)) (by rw [decide_eq_true_eq])
            rw [Bool.false_and] at hres
            have HR := Lib.hid hres
            clear hres
            go_wp2_with fail
            go_roundg (gk - 1)
            case measure => have := HGJ.out; omega
            case rel => exact ⟨j + 1, false, rfl, by go_num, by have := HGJ.out; omega, Lib.hid ⟨HJ.out.1.alloc _, HR.out⟩⟩
          | true =>
            by_cases q1 : 0 ≤ x.a
            · have q1b : decide (0 ≤ x.a) = true := decide_eq_true q1
              by_cases q2 : x.a < (kn : Int) + 1
              · have q2b : decide (x.a < (kn : Int) + 1) = true := decide_eq_true q2
                have HR := Lib.hid (HST.out true (by simp; exact ⟨q1, q2⟩))
                clear q1 q2
                go_wp2_with fail
                go_roundg (gk - 1)
                case measure => have := HGJ.out; omega
                case rel => exact ⟨j + 1, true, rfl, by go_num, by have := HGJ.out; omega, Lib.hid ⟨HJ.out.1.alloc _, HR.out⟩⟩
              · have q2b : decide (x.a < (kn : Int) + 1) = false := decide_eq_false q2
                have HR := Lib.hid (HST.out false (by simp; omega))
                clear q1 q2
                go_wp2_with fail
                go_roundg (gk - 1)
                case measure => have := HGJ.out; omega
                case rel => exact ⟨j + 1, false, rfl, by go_num, by have := HGJ.out; omega, Lib.hid ⟨HJ.out.1.alloc _, HR.out⟩⟩
            · have q1b : decide (0 ≤ x.a) = false := decide_eq_false q1
              have HR := Lib.hid (HST.out false (by simp; omega))
              clear q1
              go_wp2_with fail
              go_roundg (gk - 1)
              case measure => have := HGJ.out; omega
              case rel => exact ⟨j + 1, false, rfl, by go_num, by have := HGJ.out; omega, Lib.hid ⟨HJ.out.1.alloc _, HR.out⟩⟩
        · have hltJ : ¬ (j : Int) < (kn : Int) + 1 := by omega
          obtain rfl : j = kn + 1 := by omega
          have hcI : c = true ↔ InJ K := hj.out.2.trans (by rw [HKK.out.1]; exact jm_all rfl)
          have HCI := Lib.hid hcI
          have hX3 := HX2.out.far hj.out.1
          have H2 := Lib.hid (loops_calls (cap := cap2) hX3.ins HTL.out.1 HTL.out.2)
          have HX3 := Lib.hid hX3
          clear hj hjg hlt hcI hX3
          go_wp2_with fail
          refine (H2.out).mono ?_
          intro e w3 h3
          have hm3 : Mod [] wr w3 := by rcases h3 with ⟨_, _, _, _, _, hm, _⟩ | ⟨_, _, hm⟩ <;> exact hm
          have HX4 := Lib.hid (HX3.out.far hm3)
          cases c with
          | false =>
            have hno : ¬ InJ K := fun h => by have := HCI.out.2 h; cases this
            have H3 := Lib.hid ((may_calls (cap := cap2) (HG.out.far (HM1.out.trans HX4.out.m)) HX4.out.ins HTL.out.1 HTL.out.2 0).mono fun e w' q => may_at (may_no (jm_no HKK.out.2.1 hno)) q)
            clear hm3 H2 hno
            rcases h3 with ⟨b, o, rfl, _, _, _, _⟩ | ⟨rfl, _, _⟩
            · go_wp2_with fail
              refine (H3.out).mono ?_
              rintro e w4 ⟨rfl, hm4⟩
              have HM4 := Lib.hid ((HM1.out.trans HX4.out.m).trans hm4)
              clear hm4
              go_wp2_with fail
              go_ret
              exact ⟨by simp, HM4.out⟩
            · go_wp2_with fail
              refine (H3.out).mono ?_
              rintro e w4 ⟨rfl, hm4⟩
              have HM4 := Lib.hid ((HM1.out.trans HX4.out.m).trans hm4)
              clear hm4
              go_wp2_with fail
              go_ret
              exact ⟨by simp, HM4.out⟩
          | true =>
            have hIn := HCI.out.1 rfl
            rcases h3 with ⟨b, o, rfl, hlab, hiv, _, _⟩ | ⟨_, hbad, _⟩
            · have hol : o.length = kn + 1 := by rw [hlab.len]; exact HTL.out.1.symm
              rw [hol]
              have HLB := Lib.hid (And.intro hlab (And.intro hiv (And.intro hol hIn)))
              clear hlab hiv hm3 H2 hol hIn
              go_wp2_with fail
              go_loopg [87] (kn + 1) (fun g z wr => ∃ i : Nat, z = .int .i64 (i : Int) ∧ i + g = kn + 1 ∧ RowKit.Hid (Mod [] w3 wr))
              case atStart => exact ⟨0, rfl, by omega, Lib.hid (Mod.refl [] _)⟩
              case round =>
                obtain ⟨i, rfl, hig, hi⟩ := hrel
                by_cases hlt : i < kn + 1
                · have hltI : (i : Int) < (kn : Int) + 1 := by omega
                  obtain ⟨v, hv⟩ : ∃ v, o[i]? = some v := ⟨_, List.getElem?_eq_getElem (by rw [HLB.out.2.2.1]; exact hlt)⟩
                  have hc := (HLB.out.2.1.far hi.out).cell hv
                  have hv0 := jm_zero HKK.out.2.1 HLB.out.2.2.2 HLB.out.1 hv
                  have HI := Lib.hid hi.out
                  have HGI := Lib.hid hig
                  clear hi hig hv hlt
                  rcases hv0 with rfl | rfl
                  · go_wp2_with fail
                    go_roundg (gk - 1)
                    case measure => have := HGI.out; omega
                    case rel => exact ⟨i + 1, by go_num, by have := HGI.out; omega, HI⟩
                  · go_wp2_with fail
                    go_roundg (gk - 1)
                    case measure => have := HGI.out; omega
                    case rel => exact ⟨i + 1, by go_num, by have := HGI.out; omega, HI⟩
                · have hltI : ¬ (i : Int) < (kn : Int) + 1 := by omega
                  have hX6 := HX4.out.far hi.out
                  have hc := (HLB.out.2.1.far hi.out).cell HLB.out.1.zero
                  have hmy := jm_may HKK.out.2.1 HLB.out.2.2.2 (by have := HKK.out.1; have := HKK.out.2.2; omega) HLB.out.1
                  have H3 := Lib.hid ((may_calls (cap := cap2) (HG.out.far (HM1.out.trans hX6.m)) hX6.ins HTL.out.1 HTL.out.2 0).mono fun e w' q => may_at (may_yes hmy) q)
                  have HX6 := Lib.hid hX6
                  clear hi hig hlt hX6 hmy
                  go_wp2_with fail
                  refine (H3.out).mono ?_
                  rintro e w7 ⟨rfl, hm7⟩
                  have hX7 := HX6.out.far hm7
                  by_cases hk0 : kn = 0
                  · have HX7 := Lib.hid hX7
                    clear hm7 hX7 H3 hc
                    have hk0I : (kn : Int) + 1 < 2 := by omega
                    have hk0b : decide ((kn : Int) + 1 < 2) = true := decide_eq_true hk0I
                    clear hk0
                    go_wp2_with fail
                    go_ret
                    exact ⟨by simp, HM1.out.trans HX7.out.m⟩
                  · have hk0b : decide ((kn : Int) + 1 < 2) = false := decide_eq_false (by omega)
                    have hXa := hX7
                    rw [show jmL K = jmL K ++ [] by simp] at hXa
                    obtain ⟨A5, m5, c5, w5, e5, hm5, hX5⟩ := hXa.copy (by rw [List.append_nil, jm_len]; have := HKK.out.1; omega) (kn + 1) HTL.out.1
                    subst hm5
                    obtain ⟨A6, m6, c6, w6, e6, hdrop, hY6⟩ := hX5.app (by rw [jm_len]; have := HKK.out.1; omega) ⟨11, 0, 0⟩ ⟨by decide, by unfold I64; decide, by unfold I64; decide⟩
                    replace e6 : (appIns 22 #[.slice A5 (kn + 1) c5, .slice (some ⟨w5.heap.size, 0, none⟩) 1 1]).run Tryd.prog (w5.alloc (.cells #[.int .u8 11, .int .i64 0, .int .i64 0] 36)) = .ok (.slice A6 m6 c6) w6 := e6
                    have hl6 : m6 = (jmL K ++ [(⟨11, 0, 0⟩ : Xi)]).length := hY6.row.len.1
                    have hs6 : m6 ≤ 1000000 := by rw [hl6, List.length_append, jm_len, List.length_singleton]; have := HKK.out.1; omega
                    have hMw : Mod [] w w6 := (HM1.out.trans hX7.m).trans hY6.m
                    have H4 := Lib.hid ((may_calls (cap := c6) (HG.out.far hMw) hY6.ins hl6 hs6 0).mono fun e w' q => may_at (may_no (jm_drop K)) q)
                    have HMW := Lib.hid hMw
                    clear hm7 hX7 H3 hc hk0 hXa hX5 hdrop hY6 hl6 hs6 hMw
                    go_wp2_with fail
                    refine (H4.out).mono ?_
                    rintro e w8 ⟨rfl, hm8⟩
                    have HM8 := Lib.hid (HMW.out.trans hm8)
                    clear hm8
                    go_wp2_with fail
                    go_ret
                    exact ⟨by simp, HM8.out⟩
            · exact absurd hbad (jm_good HKK.out.2.1 hIn)
end Go.Proofs.YtheealjhmndbgaaDoor
