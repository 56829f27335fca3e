/- Layer 10: InsMay, walked. Condition: the table reads as the program's text lays it. -/
import Derived.Test.YtheealjhmndbgaaDoorIV
import Derived.Test.YtheealjhmndbgaaDoorIU
import Derived.Test.YtheealjhmndbgaaDoorIT
namespace Go.Proofs.YtheealjhmndbgaaDoor
open Go.RowKit
set_option linter.unusedVariables false

theorem may_bool (L : List Xi) (words : Int) : ∃ r : Bool, r = true ↔ MayP L words := by
  by_cases h : MayP L words
  · exact ⟨true, fun _ => h, fun _ => rfl⟩
  · exact ⟨false, fun e => (by cases e), fun e => absurd e h⟩
theorem tells_bool {L : List Xi} {words : Int} {r : Bool} (h : r = true ↔ MayP L words) {w : World} {e : Ending} {w' : World} (k : TellsM L words w e w') : e = .returned (.bool r) ∧ Mod [] w w' := by
  obtain ⟨r', rfl, h2, hm⟩ := k
  have : r' = r := by
    cases r <;> cases r' <;> simp at h h2 ⊢
    · exact h h2
    · exact h2 h
  subst this
  exact ⟨rfl, hm⟩
set_option maxHeartbeats 8000000 in
set_option maxRecDepth 100000 in
theorem may_walk {w : World} (g : Good w) {A : Option Addr} {n cap : Nat} {L : List Xi} (hL : InsAt w A L) (hn : n = L.length) (hA : A = none → cap = 0) (hnc : n ≤ cap) (hc : cap ≤ 9223372036854775807) (c : Nat) (hc256 : c < 256) :
    Calls Tryd.prog 3 #[defV A n cap, .int .u8 (c : Int)] w fun e w' => e = .returned (.bool true) ∧ Mod [] w w' := by
  have hm0 := (Mod.refl [] w).alloc (.cells #[.slice A n cap] 24)
  have H1 := Lib.hid (shown_calls (g.far hm0))
  have H2 := Lib.hid (fun W => few_calls W A n cap hA hnc hc)
  have hd : (w.alloc (.cells #[.slice A n cap] 24)).cell? ⟨w.heap.size, 0, none⟩ = some (.slice A n cap) := by rw [World.cell?_alloc_new]; rfl
  have HD := Lib.hid hd
  have HM0 := Lib.hid hm0
  obtain ⟨q, hq⟩ : ∃ q, q = min n 60 := ⟨_, rfl⟩
  rw [← hq] at H2
  have hql : q = (L.take 60).length ∧ q ≤ 1000 := by rw [List.length_take]; omega
  obtain ⟨K, hK⟩ : ∃ K, K = L.take 60 := ⟨_, rfl⟩
  have HG := Lib.hid (And.intro g (show InsAt w A K by rw [hK]; exact hL.take 60))
  rw [← hK] at hql
  have HQ := Lib.hid hql
  have hcI : (c : Int) < 256 := by omega
  obtain ⟨k, hk⟩ : ∃ k, k = c % 64 := ⟨_, rfl⟩
  have hk1 : (c : Int).tmod 64 = (k : Int) := by rw [hk, Int.tmod_eq_emod_of_nonneg (by omega)]; omega
  have hk2 : IntKind.i64.wrap (k : Int) = (k : Int) := by rw [IntKind.wrap_i64]; omega
  have hk2b : IntKind.u8.wrap (k : Int) = (k : Int) := by rw [IntKind.wrap_u8]; omega
  have hk3 : (c : Int) % 64 = (k : Int) := by omega
  have hk4 : (k : Int) < 64 := by omega
  have hqI : (q : Int) ≤ 1000 := by omega
  clear hm0 hd g hL hn hA hnc hc hq hql hK hk
  go_enter Tryd.func3, Tryd.ntmps3
  go_wp2_with fail
  refine (H1.out).mono ?_
  rintro e w1 ⟨rfl, hm1⟩
  have hd1 := hm1.cell (by simp) HD.out
  have HM1 := Lib.hid (HM0.out.trans hm1)
  clear hm1
  go_wp2_with fail
  refine (H2.out _).mono ?_
  rintro e w2 ⟨rfl, hm2⟩
  have hm3 := HM1.out.trans (hm2.alloc (.cells #[.slice A q cap] 24))
  have hd3 : (w2.alloc (.cells #[.slice A q cap] 24)).cell? ⟨w2.heap.size, 0, none⟩ = some (.slice A q cap) := by rw [World.cell?_alloc_new]; rfl
  have HD3 := Lib.hid hd3
  have HM3 := Lib.hid hm3
  have H3 := Lib.hid (loops_calls (cap := cap) (HG.out.2.far hm3) HQ.out.1 (by have := HQ.out.2; omega))
  clear hm2 hm3 hd1
  go_wp2_with fail
  refine (H3.out).mono ?_
  intro e w4 h4
  have hm4 : Mod [] (w2.alloc (.cells #[.slice A q cap] 24)) w4 := by rcases h4 with ⟨_, _, _, _, _, hm, _⟩ | ⟨_, _, hm⟩ <;> exact hm
  have H4 := Lib.hid (rloops_calls (cap := cap) (HG.out.2.far (HM3.out.trans hm4)) HQ.out.1 (by have := HQ.out.2; omega))
  have hd4 := hm4.cell (by simp) HD3.out
  have HM4 := Lib.hid (HM3.out.trans hm4)
  have HD4 := Lib.hid hd4
  obtain ⟨r, hr⟩ := may_bool K (k : Int)
  have H5 := Lib.hid (fun (W : World) (m : Mod [] w W) => (may_calls (cap := cap) (HG.out.1.far m) (HG.out.2.far m) HQ.out.1 (by have := HQ.out.2; omega) (k : Int)).mono fun e w' k => tells_bool hr k)
  have H6 := Lib.hid (fun (W : World) (m : Mod [] w W) => (rmay_calls (cap := cap) (HG.out.2.far m) HQ.out.1 (by have := HQ.out.2; omega) (k : Int)).mono fun e w' k => tells_bool hr k)
  clear hr hm4 hd3 H3
  rcases h4 with ⟨b, o, rfl, hlab, hiv, _, hnb⟩ | ⟨rfl, hbad, _⟩
  · have hol : o.length = q := by rw [hlab.len]; exact HQ.out.1.symm
    rw [hol]
    have HL4 := Lib.hid (And.intro hlab hiv)
    clear hlab hiv hnb
    go_wp2_with fail
    refine (H4.out).mono ?_
    rintro e w5 (⟨b2, o2, rfl, hlab2, hiv2, hm5, hnb2⟩ | ⟨rfl, hbad, hm5⟩)
    · obtain rfl := HL4.out.1.same hlab2
      rw [hol]
      have hd5 := hm5.cell (by simp) HD4.out
      have HD5 := Lib.hid hd5
      have HM5 := Lib.hid (HM4.out.trans hm5)
      have HV := Lib.hid (And.intro (HL4.out.2.far hm5) hiv2)
      have HOL := Lib.hid hol
      clear hlab2 hiv2 hm5 hnb2 hd4 hol
      go_wp2_with fail
      go_loopg [37] q (fun g z wr => ∃ i : Nat, z = .int .i64 (i : Int) ∧ i + g = q ∧ RowKit.Hid (Mod [] w5 wr))
      case atStart => exact ⟨0, rfl, by omega, Lib.hid (Mod.refl [] _)⟩
      case round =>
        clear hd5
        obtain ⟨i, rfl, hig, hi⟩ := hrel
        by_cases hlt : i < q
        · have hltI : (i : Int) < (q : Int) := by omega
          obtain ⟨v, hv⟩ : ∃ v, o[i]? = some v := ⟨_, List.getElem?_eq_getElem (by rw [HOL.out]; exact hlt)⟩
          have hc1 := (HV.out.1.far hi.out).cell hv
          have hc2 := (HV.out.2.far hi.out).cell hv
          have HI := Lib.hid hi.out
          have HK := Lib.hid hig
          clear hi hv hig
          go_wp2_with fail
          go_region
          all_goals
            go_wp2_with fail
            go_roundg (gk - 1)
            case measure => have := HK.out; omega
            case rel => exact ⟨i + 1, by go_num, by have := HK.out; omega, Lib.hid HI.out.drew⟩
        · have hltI : ¬ (i : Int) < (q : Int) := by omega
          have hd6 := hi.out.cell (by simp) HD5.out
          have HD6 := Lib.hid hd6
          have HM6 := Lib.hid (HM5.out.trans hi.out)
          clear hi
          go_wp2_with fail
          go_region_with (first
            | (go_at_call 13; (with_reducible refine (H5.out _ ?_).mono ?_); (first | exact HM6.out.drew | exact HX.out); rintro e w7 ⟨rfl, hm7⟩; first | (have HX2 := Lib.hid (HX.out.trans hm7); clear hm7) | (have HX := Lib.hid (HM6.out.drew.trans hm7); have hd7 := hm7.cell (by simp) HD6.out; clear hm7))
            | (go_at_call 14; (with_reducible refine (H6.out _ ?_).mono ?_); (first | exact HM6.out.drew | exact HX.out); rintro e w8 ⟨rfl, hm8⟩; first | (have HX2 := Lib.hid (HX.out.trans hm8); clear hm8) | (have HX := Lib.hid (HM6.out.drew.trans hm8); have hd8 := hm8.cell (by simp) HD6.out; clear hm8))
            | fail)
          all_goals
            go_wp2_with fail
            go_ret
            exact ⟨rfl, HX2.out⟩
    · exact absurd hbad HL4.out.1.good
  · have HBad := Lib.hid hbad
    clear hbad
    go_wp2_with fail
    refine (H4.out).mono ?_
    rintro e w5 (⟨b2, o2, rfl, hlab2, hiv2, hm5, hnb2⟩ | ⟨rfl, _, hm5⟩)
    · exact absurd HBad.out hlab2.good
    · have hd5 := hm5.cell (by simp) HD4.out
      have HD5 := Lib.hid hd5
      have HM5 := Lib.hid (HM4.out.trans hm5)
      clear hm5 hd4
      go_wp2_with fail
      go_loopg [37] 1 (fun g z wr => z = .int .i64 0 ∧ RowKit.Hid (Mod [] w5 wr))
      case atStart => exact ⟨rfl, Lib.hid (Mod.refl [] _)⟩
      case round =>
        clear hd5
        obtain ⟨rfl, hi⟩ := hrel
        have hd6 := hi.out.cell (by simp) HD5.out
        have HD6 := Lib.hid hd6
        have HM6 := Lib.hid (HM5.out.trans hi.out)
        clear hi
        go_wp2_with fail
        go_region_with (first
          | (go_at_call 13; (with_reducible refine (H5.out _ ?_).mono ?_); (first | exact HM6.out.drew | exact HX.out); rintro e w7 ⟨rfl, hm7⟩; first | (have HX2 := Lib.hid (HX.out.trans hm7); clear hm7) | (have HX := Lib.hid (HM6.out.drew.trans hm7); have hd7 := hm7.cell (by simp) HD6.out; clear hm7))
          | (go_at_call 14; (with_reducible refine (H6.out _ ?_).mono ?_); (first | exact HM6.out.drew | exact HX.out); rintro e w8 ⟨rfl, hm8⟩; first | (have HX2 := Lib.hid (HX.out.trans hm8); clear hm8) | (have HX := Lib.hid (HM6.out.drew.trans hm8); have hd8 := hm8.cell (by simp) HD6.out; clear hm8))
          | fail)
        all_goals
          go_wp2_with fail
          go_ret
          exact ⟨rfl, HX2.out⟩
end Go.Proofs.YtheealjhmndbgaaDoor
