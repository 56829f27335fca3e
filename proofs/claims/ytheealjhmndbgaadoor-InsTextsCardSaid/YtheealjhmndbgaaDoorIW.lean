/- Layer 10: InsTexts, walked. Condition: the table reads as the program's text lays it. -/
import Derived.Test.YtheealjhmndbgaaDoorIV
import Derived.Test.YtheealjhmndbgaaDoorIU
namespace Go.Proofs.YtheealjhmndbgaaDoor
open Go.RowKit
set_option linter.unusedVariables false

set_option maxHeartbeats 4000000 in
theorem texts_walk {w : World} (g : Good w) {A : Option Addr} {n cap : Nat} {L : List Xi} (hL : InsAt w A L) (hn : n = L.length) (hA : A = none → cap = 0) (hnc : n ≤ cap) (hc : cap ≤ 9223372036854775807) :
    Calls Tryd.prog 4 #[defV A n cap] w fun e w' => e = .returned (.bool true) ∧ Mod [] w w' := by
  have hm0 := (Mod.refl [] w).alloc (.cells #[.slice A n cap] 24)
  have H1 := Lib.hid (shown_calls (g.far hm0))
  have H2 := Lib.hid (fun W => few_calls W A n cap hA hnc hc)
  have hd : (w.alloc (.cells #[.slice A n cap] 24)).cell? ⟨w.heap.size, 0, none⟩ = some (.slice A n cap) := by rw [World.cell?_alloc_new]; rfl
  have HD := Lib.hid hd
  have HG := Lib.hid (And.intro g (And.intro hL hn))
  have HM0 := Lib.hid hm0
  obtain ⟨q, hq⟩ : ∃ q, q = min n 60 := ⟨_, rfl⟩
  rw [← hq] at H2
  have HQ := Lib.hid (show q = (L.take 60).length ∧ q ≤ 1000 by rw [List.length_take]; omega)
  clear hm0 hd g hL hn hA hnc hc hq
  go_enter Tryd.func4, Tryd.ntmps4
  go_wp2_with fail
  refine (H1.out).mono ?_
  rintro e w1 ⟨rfl, hm1⟩
  have hd1 := hm1.cell (by simp) HD.out
  have HM1 := Lib.hid (HM0.out.trans hm1)
  clear hm1
  go_wp2_with fail
  refine (H2.out _).mono ?_
  rintro e w2 ⟨rfl, hm2⟩
  have hm3 := HM1.out.trans (hm2.alloc (.cells #[.slice A q cap] 24))
  have H3 := Lib.hid (fun (W : World) (m : Mod [] (w2.alloc (.cells #[.slice A q cap] 24)) W) => itexts_calls (cap := cap) (HG.out.1.far (hm3.trans m)) ((HG.out.2.1.far (hm3.trans m)).take 60) HQ.out.1 HQ.out.2)
  have H4 := Lib.hid (fun (W : World) (m : Mod [] (w2.alloc (.cells #[.slice A q cap] 24)) W) => rtexts_calls (cap := cap) ((HG.out.2.1.far (hm3.trans m)).take 60) HQ.out.1 HQ.out.2)
  have hd3 : (w2.alloc (.cells #[.slice A q cap] 24)).cell? ⟨w2.heap.size, 0, none⟩ = some (.slice A q cap) := by rw [World.cell?_alloc_new]; rfl
  have HD3 := Lib.hid hd3
  have HM3 := Lib.hid hm3
  obtain ⟨T, hT⟩ : ∃ T, T = str (joinX (L.take 60)) := ⟨_, rfl⟩
  rw [← hT] at H3 H4
  clear hm2 hm3 hd1 hT
  go_wp2_with fail
  go_region_with (first
    | (go_at_call 15; (with_reducible refine (H3.out _ ?_).mono ?_); (first | exact (Mod.refl [] _).drew | exact HX.out); rintro e w5 ⟨rfl, hm5⟩; first | (have HX2 := Lib.hid (HX.out.trans hm5); clear hm5) | (have HX := Lib.hid ((Mod.refl [] (w2.alloc (.cells #[.slice A q cap] 24))).drew.trans hm5); have hd5 := HX.out.cell (by simp) HD3.out; clear hm5))
    | (go_at_call 16; (with_reducible refine (H4.out _ ?_).mono ?_); (first | exact (Mod.refl [] _).drew | exact HX.out); rintro e w6 ⟨rfl, hm6⟩; first | (have HX2 := Lib.hid (HX.out.trans hm6); clear hm6) | (have HX := Lib.hid ((Mod.refl [] (w2.alloc (.cells #[.slice A q cap] 24))).drew.trans hm6); have hd6 := HX.out.cell (by simp) HD3.out; clear hm6))
    | fail)
  all_goals
    go_wp2_with fail
    go_ret
    exact ⟨rfl, HM3.out.trans HX2.out⟩
end Go.Proofs.YtheealjhmndbgaaDoor
