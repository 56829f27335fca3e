/- Layer 10: the document's example (shown). Condition: the table reads as the program's text lays it. -/
import Derived.Test.YtheealjhmndbgaaDoorIM
import Derived.Test.YtheealjhmndbgaaDoorIR
namespace Go.Proofs.YtheealjhmndbgaaDoor
open Go.RowKit
set_option linter.unusedVariables false

theorem two_at (w : World) (a b c d e f : Int) (t : TypeId) (o1 o2 : Nat) : ∀ i (hi : i < [Xi.mk o1 a b, Xi.mk o2 c d].length), AtX (w.alloc (.cells #[.int .u8 (o1 : Int), .int .i64 a, .int .i64 b, .int .u8 (o2 : Int), .int .i64 c, .int .i64 d] t)) w.heap.size (0 + i * 3) [Xi.mk o1 a b, Xi.mk o2 c d][i] := fun i hi => by
  match i, hi with
  | 0, _ => exact ⟨by rw [World.cell?_alloc_new]; rfl, by rw [World.cell?_alloc_new]; rfl, by rw [World.cell?_alloc_new]; rfl⟩
  | 1, _ => exact ⟨by rw [World.cell?_alloc_new]; rfl, by rw [World.cell?_alloc_new]; rfl, by rw [World.cell?_alloc_new]; rfl⟩
def exL : List Xi := [⟨1, 0, 5⟩, ⟨15, 0, 0⟩]
theorem ex_lab : Lab exL [0, 0] := by
  have r0 : Rh exL ((0 : Nat) : Int) 0 := Rh.start
  have r1 : Rh exL ((1 : Nat) : Int) 0 := Rh.step (k := 0) (x := ⟨1, 0, 5⟩) (tm := (1, 0)) r0 rfl (by decide)
  refine ⟨rfl, by decide, rfl, fun k v hk hv => ?_, fun v hv => ?_, fun k v x hk hv hx => ?_⟩
  · match k, hk with
    | 0, hk => cases hk; exact r0
    | 1, hk => cases hk; exact r1
  · have : v = 0 := by simpa using hv
    subst this
    exact ⟨by omega, by simp⟩
  · match k, hk, hx with
    | 0, hk, hx => cases hk; cases hx; exact fun tm h => ⟨1, by
        have : tm = (1, 0) := by simpa [waysX] using h
        subst this; exact ⟨rfl, rfl, by decide⟩⟩
    | 1, hk, hx => cases hk; cases hx; exact fun tm h => by simp [waysX] at h
theorem ex_may : MayP exL 0 := by
  refine ⟨by decide, [0, 0], ⟨15, 0, 0⟩, 0, ex_lab, rfl, rfl, rfl, fun i x hx => ?_⟩
  match i, hx with
  | 0, hx => cases hx; decide
  | 1, hx => cases hx; decide
theorem ex_well : ∀ x ∈ exL, WellX x := fun x hx => by
  simp only [exL, List.mem_cons, List.not_mem_nil, or_false] at hx
  rcases hx with rfl | rfl <;> exact ⟨by decide, by unfold I64; decide, by unfold I64; decide⟩
theorem ex_text : joinX exL = [108, 105, 116, 32, 53, 32, 101, 120, 105, 116, 32, 48] := by decide +kernel
set_option maxHeartbeats 4000000 in
theorem shown_calls {w : World} (g : Good w) : Calls Tryd.prog 9 #[] w fun e w' => e = .returned (.bool true) ∧ Mod [] w w' := by
  have hm0 := (Mod.refl [] w).alloc (.cells #[.int .u8 1, .int .i64 0, .int .i64 5, .int .u8 15, .int .i64 0, .int .i64 0] 36)
  have hL : InsAt (w.alloc (.cells #[.int .u8 1, .int .i64 0, .int .i64 5, .int .u8 15, .int .i64 0, .int .i64 0] 36)) (some ⟨w.heap.size, 0, none⟩) exL := fun i hi => ⟨w.heap.size, 0, rfl, two_at w 0 5 0 0 0 0 _ 1 15 i hi, ex_well _ (List.getElem_mem hi)⟩
  have hm1 := hm0.alloc (.cells #[.slice (some ⟨w.heap.size, 0, none⟩) 2 2] 24)
  have hL1 := hL.far ((Mod.refl [] _).alloc (.cells #[.slice (some ⟨w.heap.size, 0, none⟩) 2 2] 24))
  have H1 := Lib.hid (may_calls (g.far hm1) (cap := 2) hL1 (n := 2) rfl (by decide) 0)
  have hd : ((w.alloc (.cells #[.int .u8 1, .int .i64 0, .int .i64 5, .int .u8 15, .int .i64 0, .int .i64 0] 36)).alloc (.cells #[.slice (some ⟨w.heap.size, 0, none⟩) 2 2] 24)).cell? ⟨w.heap.size + 1, 0, none⟩ = some (.slice (some ⟨w.heap.size, 0, none⟩) 2 2) := by
    rw [← size_allocI w (.cells #[.int .u8 1, .int .i64 0, .int .i64 5, .int .u8 15, .int .i64 0, .int .i64 0] 36), World.cell?_alloc_new]; rfl
  have HD := Lib.hid hd
  have HG := Lib.hid g
  have HM1 := Lib.hid (And.intro hm1 hL1)
  have ht : str (joinX exL) = (⟨#[108, 105, 116, 32, 53, 32, 101, 120, 105, 116, 32, 48]⟩ : ByteArray) := by rw [ex_text]; rfl
  clear hm0 hL hm1 hL1 hd g
  go_enter Tryd.func9, Tryd.ntmps9
  go_wp2_with fail
  refine (H1.out).mono ?_
  rintro e w1 ⟨r, rfl, hr, hm⟩
  obtain rfl := hr.2 ex_may
  have hd1 := hm.cell (by simp) HD.out
  have k2 := itexts_calls (HG.out.far (HM1.out.1.trans hm)) (cap := 2) (HM1.out.2.far hm) (n := 2) rfl (by decide)
  rw [ht] at k2
  have H2 := Lib.hid k2
  have HM := Lib.hid (HM1.out.1.trans hm)
  clear hr hm k2 ht
  go_wp2_with fail
  refine (H2.out).mono ?_
  rintro e w2 ⟨rfl, hm2⟩
  have HM2 := Lib.hid hm2
  clear hm2
  go_wp2_with fail
  go_ret
  exact ⟨by simp, HM.out.trans HM2.out⟩
end Go.Proofs.YtheealjhmndbgaaDoor
