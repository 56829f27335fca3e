/- Layer 14: an act on both frames (does): set. No condition. -/
import Derived.Test.YtacmidlhfcnkiaaHP
namespace Go.Proofs.Ytacmidlhfcnkiaa
open Go.RowKit
set_option linter.unusedVariables false

set_option maxRecDepth 100000 in
set_option maxHeartbeats 16000000 in
theorem does_set {w0 w : World} {p q : Nat} {L : List Fm} {D : List Nat} (h : Fp w0 w p q L L D) (u : Int) (hu : Int.tmod u 9 = 7) (f : Fm) (s : Value) (n x : Int) : Calls Try.prog 13 #[Pt p, Pt q, .agg (cellsY u f s n x)] w (Done w0 w p q D) := by
  obtain ⟨hF0, bA0, K00⟩ := act_in h u f s n x
  have md : Mod [] (w.alloc (.cells (cellsY u f s n x) TA)) (w.alloc (.cells (cellsY u f s n x) TA)).drew := (Mod.refl [] _).drew
  have hF := hF0.far md
  have bA : (w.alloc (.cells (cellsY u f s n x) TA)).drew.heap[w.heap.size]? = some (.cells (cellsY u f s n x) TA (0, 0)) := bA0
  have hsz : (w.alloc (.cells (cellsY u f s n x) TA)).heap.size = w.heap.size + 1 := size_allocI w _
  have K0 := K00.trans (Kp.far md) (by omega)
  obtain ⟨W1, hW1⟩ : ∃ W1, W1 = w.alloc (.cells (cellsY u f s n x) TA) := ⟨_, rfl⟩
  have HW := Lib.hid hW1
  obtain ⟨c0, c1, c2, c3, c4, c5, c6, c7, c8⟩ := nine_at bA0
  rw [← hW1] at hF bA K0
  have H1 := Lib.hid (hF.set n x)
  have HP := fun (W : World) (L2 : List Fm) (hW : Fp w0 W p q L2 L (w.heap.size :: D)) => hW.rset n x
  obtain ⟨va, hva⟩ : ∃ va, va = orE (-6) (localL n L) := ⟨_, rfl⟩
  simp only [← hva] at H1 HP
  have NX := Lib.hid (fun (w3 : World) (L2 : List Fm) (hF3 : Fp w0 w3 p q L2 L (w.heap.size :: D)) (hK3 : Kp (w.heap.size :: D) W1.drew w3) => by
    have b3 := box_kept bA hK3 (by simp)
    obtain ⟨d0, d1, d2, d3, d4, d5, d6, d7, d8⟩ := nine_at b3
    exact And.intro d0 (And.intro d1 (And.intro d2 (And.intro d3 (And.intro d4 (And.intro d5 (And.intro d6 (And.intro d7 (And.intro d8 (And.intro (Lib.hid (HP w3 L2 hF3)) (Lib.hid (And.intro hK3 b3))))))))))))
  have HF := Lib.hid (And.intro bA K0)
  clear h hF0 bA0 K00 md hF bA hsz K0 hW1 HP hva
  go_enter Try.func13, Try.ntmps13
  go_upto_region 29 with fail
  have hW1 := HW.out
  have e0 : W1.cell? ⟨w.heap.size, 0, none⟩ = some (.int .u8 u) := by rw [hW1]; exact c0
  have e1 : W1.cell? ⟨w.heap.size, 1, none⟩ = some (.int .i64 f.k) := by rw [hW1]; exact c1
  have e2 : W1.cell? ⟨w.heap.size, 2, none⟩ = some (.int .i64 f.a) := by rw [hW1]; exact c2
  have e3 : W1.cell? ⟨w.heap.size, 3, none⟩ = some (.int .i64 f.b) := by rw [hW1]; exact c3
  have e4 : W1.cell? ⟨w.heap.size, 4, none⟩ = some (.int .i64 f.x) := by rw [hW1]; exact c4
  have e5 : W1.cell? ⟨w.heap.size, 5, none⟩ = some (.int .i64 f.y) := by rw [hW1]; exact c5
  have e6 : W1.cell? ⟨w.heap.size, 6, none⟩ = some s := by rw [hW1]; exact c6
  have e7 : W1.cell? ⟨w.heap.size, 7, none⟩ = some (.int .i64 n) := by rw [hW1]; exact c7
  have e8 : W1.cell? ⟨w.heap.size, 8, none⟩ = some (.int .i64 x) := by rw [hW1]; exact c8
  rw [← hW1]
  clear hW1 HW c0 c1 c2 c3 c4 c5 c6 c7 c8
  refine wp_region_any (by kernel_rfl) ?_
  try (change wpAny _ _ _ _ _ _ _ (World.drew _))
  refine wpAny_take (i := 0) (v := ?_) rfl (by kernel_rfl) (by kernel_rfl) (by kernel_rfl) (fun _ _ _ h => h) (Or.inl ⟨by rfl, ?_⟩) ?_
  rotate_left 1
  · intro w; go_simp; try with_reducible rfl
  refine wpAny_take (i := 1) (v := ?_) rfl (by kernel_rfl) (by kernel_rfl) (by kernel_rfl) (fun _ _ _ h => h) (Or.inl ⟨by rfl, ?_⟩) ?_
  rotate_left 1
  · intro w; go_simp; try with_reducible rfl
  refine wpAny_take (i := 3) (v := ?_) rfl (by kernel_rfl) (by kernel_rfl) (by kernel_rfl) (fun _ _ _ h => h) (Or.inl ⟨by rfl, ?_⟩) ?_
  rotate_left 1
  · intro w; go_simp; try with_reducible rfl
  refine wpAny_take (i := 6) (v := ?_) rfl (by kernel_rfl) (by kernel_rfl) (by kernel_rfl) (fun _ _ _ h => h) (Or.inl ⟨by rfl, ?_⟩) ?_
  rotate_left 1
  · intro w; go_simp; try with_reducible rfl
  refine wpAny_take (i := 7) (v := ?_) rfl (by kernel_rfl) (by kernel_rfl) (by kernel_rfl) (fun _ _ _ h => h) (Or.inl ⟨by rfl, ?_⟩) ?_
  rotate_left 1
  · intro w; go_simp; try with_reducible rfl
  refine wpAny_take (i := 9) (v := ?_) rfl (by kernel_rfl) (by kernel_rfl) (by kernel_rfl) (fun _ _ _ h => h) (Or.inl ⟨by rfl, ?_⟩) ?_
  rotate_left 1
  · intro w; go_simp; try with_reducible rfl
  refine wpAny_ready (rs := [2, 4, 8, 10]) (by kernel_rfl) (by simp) ?_
  refine AllReady.cons rfl (fun K hK => ?_) ?_
  · go_simp
    refine hK _ _ ?_; clear hK K
    refine wpAny_ready (rs := [4, 8, 10]) (by kernel_rfl) (by simp) ?_
    refine AllReady.cons rfl (fun K hK => ?_) ?_
    · go_simp
      refine hK _ _ ?_; clear hK K
      refine wpAny_ready (rs := [5, 8, 10]) (by kernel_rfl) (by simp) ?_
      refine AllReady.cons rfl (fun K hK => ?_) ?_
      · go_simp; refine (H1.out).mono ?_; rintro e w3 ⟨rfl, hF3, hK3⟩; obtain ⟨d0, d1, d2, d3, d4, d5, d6, d7, d8, H2, HE⟩ := NX.out w3 _ hF3 hK3; clear hF3 hK3
        refine hK _ _ ?_; clear hK K
        refine wpAny_ready (rs := [8, 10]) (by kernel_rfl) (by simp) ?_
        refine AllReady.cons rfl (fun K hK => ?_) ?_
        · go_simp
          refine hK _ _ ?_; clear hK K
          refine wpAny_ready (rs := [10]) (by kernel_rfl) (by simp) ?_
          refine AllReady.cons rfl (fun K hK => ?_) ?_
          · go_simp
            refine hK _ _ ?_; clear hK K
            refine wpAny_ready (rs := [11]) (by kernel_rfl) (by simp) ?_
            refine AllReady.cons rfl (fun K hK => ?_) ?_
            · go_simp; refine (H2.out).mono ?_; rintro e w4 ⟨rfl, hF4, hK4⟩; have HY := Lib.hid (And.intro hF4 hK4); clear hF4 hK4
              refine hK _ _ ?_; clear hK K
              refine wpAny_take (i := 12) (v := ?_) rfl (by kernel_rfl) (by kernel_rfl) (by kernel_rfl) (fun _ _ _ h => h) (Or.inl ⟨by rfl, ?_⟩) ?_
              rotate_left 1
              · intro w; go_simp; try with_reducible rfl
              refine wpAny_take (i := 13) (v := ?_) rfl (by kernel_rfl) (by kernel_rfl) (by kernel_rfl) (fun _ _ _ h => h) (Or.inl ⟨by rfl, ?_⟩) ?_
              rotate_left 1
              · intro w; go_simp; try with_reducible rfl
              refine wpAny_done (by kernel_rfl) ?_ _
              clear d0 d1 d2 d3 d4 d5 d6 d7 d8 H2
              go_wp2_with fail
              go_ret
              exact ⟨rfl, act_out HY.out.1 (fun x hx => List.mem_cons_of_mem _ hx) HF.out.2 HF.out.1 HE.out.1 HE.out.2 HY.out.2⟩
            exact AllReady.nil
          exact AllReady.nil
        refine AllReady.cons rfl (fun K hK => ?_) ?_
        · go_simp
          refine hK _ _ ?_; clear hK K
          refine wpAny_ready (rs := [8]) (by kernel_rfl) (by simp) ?_
          refine AllReady.cons rfl (fun K hK => ?_) ?_
          · go_simp
            refine hK _ _ ?_; clear hK K
            refine wpAny_ready (rs := [11]) (by kernel_rfl) (by simp) ?_
            refine AllReady.cons rfl (fun K hK => ?_) ?_
            · go_simp; refine (H2.out).mono ?_; rintro e w4 ⟨rfl, hF4, hK4⟩; have HY := Lib.hid (And.intro hF4 hK4); clear hF4 hK4
              refine hK _ _ ?_; clear hK K
              refine wpAny_take (i := 12) (v := ?_) rfl (by kernel_rfl) (by kernel_rfl) (by kernel_rfl) (fun _ _ _ h => h) (Or.inl ⟨by rfl, ?_⟩) ?_
              rotate_left 1
              · intro w; go_simp; try with_reducible rfl
              refine wpAny_take (i := 13) (v := ?_) rfl (by kernel_rfl) (by kernel_rfl) (by kernel_rfl) (fun _ _ _ h => h) (Or.inl ⟨by rfl, ?_⟩) ?_
              rotate_left 1
              · intro w; go_simp; try with_reducible rfl
              refine wpAny_done (by kernel_rfl) ?_ _
              clear d0 d1 d2 d3 d4 d5 d6 d7 d8 H2
              go_wp2_with fail
              go_ret
              exact ⟨rfl, act_out HY.out.1 (fun x hx => List.mem_cons_of_mem _ hx) HF.out.2 HF.out.1 HE.out.1 HE.out.2 HY.out.2⟩
            exact AllReady.nil
          exact AllReady.nil
        exact AllReady.nil
      refine AllReady.cons rfl (fun K hK => ?_) ?_
      · go_simp
        refine hK _ _ ?_; clear hK K
        refine wpAny_ready (rs := [5, 10]) (by kernel_rfl) (by simp) ?_
        refine AllReady.cons rfl (fun K hK => ?_) ?_
        · go_simp; refine (H1.out).mono ?_; rintro e w3 ⟨rfl, hF3, hK3⟩; obtain ⟨d0, d1, d2, d3, d4, d5, d6, d7, d8, H2, HE⟩ := NX.out w3 _ hF3 hK3; clear hF3 hK3
          refine hK _ _ ?_; clear hK K
          refine wpAny_ready (rs := [10]) (by kernel_rfl) (by simp) ?_
          refine AllReady.cons rfl (fun K hK => ?_) ?_
          · go_simp
            refine hK _ _ ?_; clear hK K
            refine wpAny_ready (rs := [11]) (by kernel_rfl) (by simp) ?_
            refine AllReady.cons rfl (fun K hK => ?_) ?_
            · go_simp; refine (H2.out).mono ?_; rintro e w4 ⟨rfl, hF4, hK4⟩; have HY := Lib.hid (And.intro hF4 hK4); clear hF4 hK4
              refine hK _ _ ?_; clear hK K
              refine wpAny_take (i := 12) (v := ?_) rfl (by kernel_rfl) (by kernel_rfl) (by kernel_rfl) (fun _ _ _ h => h) (Or.inl ⟨by rfl, ?_⟩) ?_
              rotate_left 1
              · intro w; go_simp; try with_reducible rfl
              refine wpAny_take (i := 13) (v := ?_) rfl (by kernel_rfl) (by kernel_rfl) (by kernel_rfl) (fun _ _ _ h => h) (Or.inl ⟨by rfl, ?_⟩) ?_
              rotate_left 1
              · intro w; go_simp; try with_reducible rfl
              refine wpAny_done (by kernel_rfl) ?_ _
              clear d0 d1 d2 d3 d4 d5 d6 d7 d8 H2
              go_wp2_with fail
              go_ret
              exact ⟨rfl, act_out HY.out.1 (fun x hx => List.mem_cons_of_mem _ hx) HF.out.2 HF.out.1 HE.out.1 HE.out.2 HY.out.2⟩
            exact AllReady.nil
          exact AllReady.nil
        refine AllReady.cons rfl (fun K hK => ?_) ?_
        · go_simp
          refine hK _ _ ?_; clear hK K
          refine wpAny_ready (rs := [5]) (by kernel_rfl) (by simp) ?_
          refine AllReady.cons rfl (fun K hK => ?_) ?_
          · go_simp; refine (H1.out).mono ?_; rintro e w3 ⟨rfl, hF3, hK3⟩; obtain ⟨d0, d1, d2, d3, d4, d5, d6, d7, d8, H2, HE⟩ := NX.out w3 _ hF3 hK3; clear hF3 hK3
            refine hK _ _ ?_; clear hK K
            refine wpAny_ready (rs := [11]) (by kernel_rfl) (by simp) ?_
            refine AllReady.cons rfl (fun K hK => ?_) ?_
            · go_simp; refine (H2.out).mono ?_; rintro e w4 ⟨rfl, hF4, hK4⟩; have HY := Lib.hid (And.intro hF4 hK4); clear hF4 hK4
              refine hK _ _ ?_; clear hK K
              refine wpAny_take (i := 12) (v := ?_) rfl (by kernel_rfl) (by kernel_rfl) (by kernel_rfl) (fun _ _ _ h => h) (Or.inl ⟨by rfl, ?_⟩) ?_
              rotate_left 1
              · intro w; go_simp; try with_reducible rfl
              refine wpAny_take (i := 13) (v := ?_) rfl (by kernel_rfl) (by kernel_rfl) (by kernel_rfl) (fun _ _ _ h => h) (Or.inl ⟨by rfl, ?_⟩) ?_
              rotate_left 1
              · intro w; go_simp; try with_reducible rfl
              refine wpAny_done (by kernel_rfl) ?_ _
              clear d0 d1 d2 d3 d4 d5 d6 d7 d8 H2
              go_wp2_with fail
              go_ret
              exact ⟨rfl, act_out HY.out.1 (fun x hx => List.mem_cons_of_mem _ hx) HF.out.2 HF.out.1 HE.out.1 HE.out.2 HY.out.2⟩
            exact AllReady.nil
          exact AllReady.nil
        exact AllReady.nil
      refine AllReady.cons rfl (fun K hK => ?_) ?_
      · go_simp
        refine hK _ _ ?_; clear hK K
        refine wpAny_ready (rs := [5, 8]) (by kernel_rfl) (by simp) ?_
        refine AllReady.cons rfl (fun K hK => ?_) ?_
        · go_simp; refine (H1.out).mono ?_; rintro e w3 ⟨rfl, hF3, hK3⟩; obtain ⟨d0, d1, d2, d3, d4, d5, d6, d7, d8, H2, HE⟩ := NX.out w3 _ hF3 hK3; clear hF3 hK3
          refine hK _ _ ?_; clear hK K
          refine wpAny_ready (rs := [8]) (by kernel_rfl) (by simp) ?_
          refine AllReady.cons rfl (fun K hK => ?_) ?_
          · go_simp
            refine hK _ _ ?_; clear hK K
            refine wpAny_ready (rs := [11]) (by kernel_rfl) (by simp) ?_
            refine AllReady.cons rfl (fun K hK => ?_) ?_
            · go_simp; refine (H2.out).mono ?_; rintro e w4 ⟨rfl, hF4, hK4⟩; have HY := Lib.hid (And.intro hF4 hK4); clear hF4 hK4
              refine hK _ _ ?_; clear hK K
              refine wpAny_take (i := 12) (v := ?_) rfl (by kernel_rfl) (by kernel_rfl) (by kernel_rfl) (fun _ _ _ h => h) (Or.inl ⟨by rfl, ?_⟩) ?_
              rotate_left 1
              · intro w; go_simp; try with_reducible rfl
              refine wpAny_take (i := 13) (v := ?_) rfl (by kernel_rfl) (by kernel_rfl) (by kernel_rfl) (fun _ _ _ h => h) (Or.inl ⟨by rfl, ?_⟩) ?_
              rotate_left 1
              · intro w; go_simp; try with_reducible rfl
              refine wpAny_done (by kernel_rfl) ?_ _
              clear d0 d1 d2 d3 d4 d5 d6 d7 d8 H2
              go_wp2_with fail
              go_ret
              exact ⟨rfl, act_out HY.out.1 (fun x hx => List.mem_cons_of_mem _ hx) HF.out.2 HF.out.1 HE.out.1 HE.out.2 HY.out.2⟩
            exact AllReady.nil
          exact AllReady.nil
        refine AllReady.cons rfl (fun K hK => ?_) ?_
        · go_simp
          refine hK _ _ ?_; clear hK K
          refine wpAny_ready (rs := [5]) (by kernel_rfl) (by simp) ?_
          refine AllReady.cons rfl (fun K hK => ?_) ?_
          · go_simp; refine (H1.out).mono ?_; rintro e w3 ⟨rfl, hF3, hK3⟩; obtain ⟨d0, d1, d2, d3, d4, d5, d6, d7, d8, H2, HE⟩ := NX.out w3 _ hF3 hK3; clear hF3 hK3
            refine hK _ _ ?_; clear hK K
            refine wpAny_ready (rs := [11]) (by kernel_rfl) (by simp) ?_
            refine AllReady.cons rfl (fun K hK => ?_) ?_
            · go_simp; refine (H2.out).mono ?_; rintro e w4 ⟨rfl, hF4, hK4⟩; have HY := Lib.hid (And.intro hF4 hK4); clear hF4 hK4
              refine hK _ _ ?_; clear hK K
              refine wpAny_take (i := 12) (v := ?_) rfl (by kernel_rfl) (by kernel_rfl) (by kernel_rfl) (fun _ _ _ h => h) (Or.inl ⟨by rfl, ?_⟩) ?_
              rotate_left 1
              · intro w; go_simp; try with_reducible rfl
              refine wpAny_take (i := 13) (v := ?_) rfl (by kernel_rfl) (by kernel_rfl) (by kernel_rfl) (fun _ _ _ h => h) (Or.inl ⟨by rfl, ?_⟩) ?_
              rotate_left 1
              · intro w; go_simp; try with_reducible rfl
              refine wpAny_done (by kernel_rfl) ?_ _
              clear d0 d1 d2 d3 d4 d5 d6 d7 d8 H2
              go_wp2_with fail
              go_ret
              exact ⟨rfl, act_out HY.out.1 (fun x hx => List.mem_cons_of_mem _ hx) HF.out.2 HF.out.1 HE.out.1 HE.out.2 HY.out.2⟩
            exact AllReady.nil
          exact AllReady.nil
        exact AllReady.nil
      exact AllReady.nil
    refine AllReady.cons rfl (fun K hK => ?_) ?_
    · go_simp
      refine hK _ _ ?_; clear hK K
      refine wpAny_ready (rs := [4, 10]) (by kernel_rfl) (by simp) ?_
      refine AllReady.cons rfl (fun K hK => ?_) ?_
      · go_simp
        refine hK _ _ ?_; clear hK K
        refine wpAny_ready (rs := [5, 10]) (by kernel_rfl) (by simp) ?_
        refine AllReady.cons rfl (fun K hK => ?_) ?_
        · go_simp; refine (H1.out).mono ?_; rintro e w3 ⟨rfl, hF3, hK3⟩; obtain ⟨d0, d1, d2, d3, d4, d5, d6, d7, d8, H2, HE⟩ := NX.out w3 _ hF3 hK3; clear hF3 hK3
          refine hK _ _ ?_; clear hK K
          refine wpAny_ready (rs := [10]) (by kernel_rfl) (by simp) ?_
          refine AllReady.cons rfl (fun K hK => ?_) ?_
          · go_simp
            refine hK _ _ ?_; clear hK K
            refine wpAny_ready (rs := [11]) (by kernel_rfl) (by simp) ?_
            refine AllReady.cons rfl (fun K hK => ?_) ?_
            · go_simp; refine (H2.out).mono ?_; rintro e w4 ⟨rfl, hF4, hK4⟩; have HY := Lib.hid (And.intro hF4 hK4); clear hF4 hK4
              refine hK _ _ ?_; clear hK K
              refine wpAny_take (i := 12) (v := ?_) rfl (by kernel_rfl) (by kernel_rfl) (by kernel_rfl) (fun _ _ _ h => h) (Or.inl ⟨by rfl, ?_⟩) ?_
              rotate_left 1
              · intro w; go_simp; try with_reducible rfl
              refine wpAny_take (i := 13) (v := ?_) rfl (by kernel_rfl) (by kernel_rfl) (by kernel_rfl) (fun _ _ _ h => h) (Or.inl ⟨by rfl, ?_⟩) ?_
              rotate_left 1
              · intro w; go_simp; try with_reducible rfl
              refine wpAny_done (by kernel_rfl) ?_ _
              clear d0 d1 d2 d3 d4 d5 d6 d7 d8 H2
              go_wp2_with fail
              go_ret
              exact ⟨rfl, act_out HY.out.1 (fun x hx => List.mem_cons_of_mem _ hx) HF.out.2 HF.out.1 HE.out.1 HE.out.2 HY.out.2⟩
            exact AllReady.nil
          exact AllReady.nil
        refine AllReady.cons rfl (fun K hK => ?_) ?_
        · go_simp
          refine hK _ _ ?_; clear hK K
          refine wpAny_ready (rs := [5]) (by kernel_rfl) (by simp) ?_
          refine AllReady.cons rfl (fun K hK => ?_) ?_
          · go_simp; refine (H1.out).mono ?_; rintro e w3 ⟨rfl, hF3, hK3⟩; obtain ⟨d0, d1, d2, d3, d4, d5, d6, d7, d8, H2, HE⟩ := NX.out w3 _ hF3 hK3; clear hF3 hK3
            refine hK _ _ ?_; clear hK K
            refine wpAny_ready (rs := [11]) (by kernel_rfl) (by simp) ?_
            refine AllReady.cons rfl (fun K hK => ?_) ?_
            · go_simp; refine (H2.out).mono ?_; rintro e w4 ⟨rfl, hF4, hK4⟩; have HY := Lib.hid (And.intro hF4 hK4); clear hF4 hK4
              refine hK _ _ ?_; clear hK K
              refine wpAny_take (i := 12) (v := ?_) rfl (by kernel_rfl) (by kernel_rfl) (by kernel_rfl) (fun _ _ _ h => h) (Or.inl ⟨by rfl, ?_⟩) ?_
              rotate_left 1
              · intro w; go_simp; try with_reducible rfl
              refine wpAny_take (i := 13) (v := ?_) rfl (by kernel_rfl) (by kernel_rfl) (by kernel_rfl) (fun _ _ _ h => h) (Or.inl ⟨by rfl, ?_⟩) ?_
              rotate_left 1
              · intro w; go_simp; try with_reducible rfl
              refine wpAny_done (by kernel_rfl) ?_ _
              clear d0 d1 d2 d3 d4 d5 d6 d7 d8 H2
              go_wp2_with fail
              go_ret
              exact ⟨rfl, act_out HY.out.1 (fun x hx => List.mem_cons_of_mem _ hx) HF.out.2 HF.out.1 HE.out.1 HE.out.2 HY.out.2⟩
            exact AllReady.nil
          exact AllReady.nil
        exact AllReady.nil
      refine AllReady.cons rfl (fun K hK => ?_) ?_
      · go_simp
        refine hK _ _ ?_; clear hK K
        refine wpAny_ready (rs := [4]) (by kernel_rfl) (by simp) ?_
        refine AllReady.cons rfl (fun K hK => ?_) ?_
        · go_simp
          refine hK _ _ ?_; clear hK K
          refine wpAny_ready (rs := [5]) (by kernel_rfl) (by simp) ?_
          refine AllReady.cons rfl (fun K hK => ?_) ?_
          · go_simp; refine (H1.out).mono ?_; rintro e w3 ⟨rfl, hF3, hK3⟩; obtain ⟨d0, d1, d2, d3, d4, d5, d6, d7, d8, H2, HE⟩ := NX.out w3 _ hF3 hK3; clear hF3 hK3
            refine hK _ _ ?_; clear hK K
            refine wpAny_ready (rs := [11]) (by kernel_rfl) (by simp) ?_
            refine AllReady.cons rfl (fun K hK => ?_) ?_
            · go_simp; refine (H2.out).mono ?_; rintro e w4 ⟨rfl, hF4, hK4⟩; have HY := Lib.hid (And.intro hF4 hK4); clear hF4 hK4
              refine hK _ _ ?_; clear hK K
              refine wpAny_take (i := 12) (v := ?_) rfl (by kernel_rfl) (by kernel_rfl) (by kernel_rfl) (fun _ _ _ h => h) (Or.inl ⟨by rfl, ?_⟩) ?_
              rotate_left 1
              · intro w; go_simp; try with_reducible rfl
              refine wpAny_take (i := 13) (v := ?_) rfl (by kernel_rfl) (by kernel_rfl) (by kernel_rfl) (fun _ _ _ h => h) (Or.inl ⟨by rfl, ?_⟩) ?_
              rotate_left 1
              · intro w; go_simp; try with_reducible rfl
              refine wpAny_done (by kernel_rfl) ?_ _
              clear d0 d1 d2 d3 d4 d5 d6 d7 d8 H2
              go_wp2_with fail
              go_ret
              exact ⟨rfl, act_out HY.out.1 (fun x hx => List.mem_cons_of_mem _ hx) HF.out.2 HF.out.1 HE.out.1 HE.out.2 HY.out.2⟩
            exact AllReady.nil
          exact AllReady.nil
        exact AllReady.nil
      exact AllReady.nil
    refine AllReady.cons rfl (fun K hK => ?_) ?_
    · go_simp
      refine hK _ _ ?_; clear hK K
      refine wpAny_ready (rs := [4, 8]) (by kernel_rfl) (by simp) ?_
      refine AllReady.cons rfl (fun K hK => ?_) ?_
      · go_simp
        refine hK _ _ ?_; clear hK K
        refine wpAny_ready (rs := [5, 8]) (by kernel_rfl) (by simp) ?_
        refine AllReady.cons rfl (fun K hK => ?_) ?_
        · go_simp; refine (H1.out).mono ?_; rintro e w3 ⟨rfl, hF3, hK3⟩; obtain ⟨d0, d1, d2, d3, d4, d5, d6, d7, d8, H2, HE⟩ := NX.out w3 _ hF3 hK3; clear hF3 hK3
          refine hK _ _ ?_; clear hK K
          refine wpAny_ready (rs := [8]) (by kernel_rfl) (by simp) ?_
          refine AllReady.cons rfl (fun K hK => ?_) ?_
          · go_simp
            refine hK _ _ ?_; clear hK K
            refine wpAny_ready (rs := [11]) (by kernel_rfl) (by simp) ?_
            refine AllReady.cons rfl (fun K hK => ?_) ?_
            · go_simp; refine (H2.out).mono ?_; rintro e w4 ⟨rfl, hF4, hK4⟩; have HY := Lib.hid (And.intro hF4 hK4); clear hF4 hK4
              refine hK _ _ ?_; clear hK K
              refine wpAny_take (i := 12) (v := ?_) rfl (by kernel_rfl) (by kernel_rfl) (by kernel_rfl) (fun _ _ _ h => h) (Or.inl ⟨by rfl, ?_⟩) ?_
              rotate_left 1
              · intro w; go_simp; try with_reducible rfl
              refine wpAny_take (i := 13) (v := ?_) rfl (by kernel_rfl) (by kernel_rfl) (by kernel_rfl) (fun _ _ _ h => h) (Or.inl ⟨by rfl, ?_⟩) ?_
              rotate_left 1
              · intro w; go_simp; try with_reducible rfl
              refine wpAny_done (by kernel_rfl) ?_ _
              clear d0 d1 d2 d3 d4 d5 d6 d7 d8 H2
              go_wp2_with fail
              go_ret
              exact ⟨rfl, act_out HY.out.1 (fun x hx => List.mem_cons_of_mem _ hx) HF.out.2 HF.out.1 HE.out.1 HE.out.2 HY.out.2⟩
            exact AllReady.nil
          exact AllReady.nil
        refine AllReady.cons rfl (fun K hK => ?_) ?_
        · go_simp
          refine hK _ _ ?_; clear hK K
          refine wpAny_ready (rs := [5]) (by kernel_rfl) (by simp) ?_
          refine AllReady.cons rfl (fun K hK => ?_) ?_
          · go_simp; refine (H1.out).mono ?_; rintro e w3 ⟨rfl, hF3, hK3⟩; obtain ⟨d0, d1, d2, d3, d4, d5, d6, d7, d8, H2, HE⟩ := NX.out w3 _ hF3 hK3; clear hF3 hK3
            refine hK _ _ ?_; clear hK K
            refine wpAny_ready (rs := [11]) (by kernel_rfl) (by simp) ?_
            refine AllReady.cons rfl (fun K hK => ?_) ?_
            · go_simp; refine (H2.out).mono ?_; rintro e w4 ⟨rfl, hF4, hK4⟩; have HY := Lib.hid (And.intro hF4 hK4); clear hF4 hK4
              refine hK _ _ ?_; clear hK K
              refine wpAny_take (i := 12) (v := ?_) rfl (by kernel_rfl) (by kernel_rfl) (by kernel_rfl) (fun _ _ _ h => h) (Or.inl ⟨by rfl, ?_⟩) ?_
              rotate_left 1
              · intro w; go_simp; try with_reducible rfl
              refine wpAny_take (i := 13) (v := ?_) rfl (by kernel_rfl) (by kernel_rfl) (by kernel_rfl) (fun _ _ _ h => h) (Or.inl ⟨by rfl, ?_⟩) ?_
              rotate_left 1
              · intro w; go_simp; try with_reducible rfl
              refine wpAny_done (by kernel_rfl) ?_ _
              clear d0 d1 d2 d3 d4 d5 d6 d7 d8 H2
              go_wp2_with fail
              go_ret
              exact ⟨rfl, act_out HY.out.1 (fun x hx => List.mem_cons_of_mem _ hx) HF.out.2 HF.out.1 HE.out.1 HE.out.2 HY.out.2⟩
            exact AllReady.nil
          exact AllReady.nil
        exact AllReady.nil
      refine AllReady.cons rfl (fun K hK => ?_) ?_
      · go_simp
        refine hK _ _ ?_; clear hK K
        refine wpAny_ready (rs := [4]) (by kernel_rfl) (by simp) ?_
        refine AllReady.cons rfl (fun K hK => ?_) ?_
        · go_simp
          refine hK _ _ ?_; clear hK K
          refine wpAny_ready (rs := [5]) (by kernel_rfl) (by simp) ?_
          refine AllReady.cons rfl (fun K hK => ?_) ?_
          · go_simp; refine (H1.out).mono ?_; rintro e w3 ⟨rfl, hF3, hK3⟩; obtain ⟨d0, d1, d2, d3, d4, d5, d6, d7, d8, H2, HE⟩ := NX.out w3 _ hF3 hK3; clear hF3 hK3
            refine hK _ _ ?_; clear hK K
            refine wpAny_ready (rs := [11]) (by kernel_rfl) (by simp) ?_
            refine AllReady.cons rfl (fun K hK => ?_) ?_
            · go_simp; refine (H2.out).mono ?_; rintro e w4 ⟨rfl, hF4, hK4⟩; have HY := Lib.hid (And.intro hF4 hK4); clear hF4 hK4
              refine hK _ _ ?_; clear hK K
              refine wpAny_take (i := 12) (v := ?_) rfl (by kernel_rfl) (by kernel_rfl) (by kernel_rfl) (fun _ _ _ h => h) (Or.inl ⟨by rfl, ?_⟩) ?_
              rotate_left 1
              · intro w; go_simp; try with_reducible rfl
              refine wpAny_take (i := 13) (v := ?_) rfl (by kernel_rfl) (by kernel_rfl) (by kernel_rfl) (fun _ _ _ h => h) (Or.inl ⟨by rfl, ?_⟩) ?_
              rotate_left 1
              · intro w; go_simp; try with_reducible rfl
              refine wpAny_done (by kernel_rfl) ?_ _
              clear d0 d1 d2 d3 d4 d5 d6 d7 d8 H2
              go_wp2_with fail
              go_ret
              exact ⟨rfl, act_out HY.out.1 (fun x hx => List.mem_cons_of_mem _ hx) HF.out.2 HF.out.1 HE.out.1 HE.out.2 HY.out.2⟩
            exact AllReady.nil
          exact AllReady.nil
        exact AllReady.nil
      exact AllReady.nil
    exact AllReady.nil
  refine AllReady.cons rfl (fun K hK => ?_) ?_
  · go_simp
    refine hK _ _ ?_; clear hK K
    refine wpAny_ready (rs := [2, 8, 10]) (by kernel_rfl) (by simp) ?_
    refine AllReady.cons rfl (fun K hK => ?_) ?_
    · go_simp
      refine hK _ _ ?_; clear hK K
      refine wpAny_ready (rs := [5, 8, 10]) (by kernel_rfl) (by simp) ?_
      refine AllReady.cons rfl (fun K hK => ?_) ?_
      · go_simp; refine (H1.out).mono ?_; rintro e w3 ⟨rfl, hF3, hK3⟩; obtain ⟨d0, d1, d2, d3, d4, d5, d6, d7, d8, H2, HE⟩ := NX.out w3 _ hF3 hK3; clear hF3 hK3
        refine hK _ _ ?_; clear hK K
        refine wpAny_ready (rs := [8, 10]) (by kernel_rfl) (by simp) ?_
        refine AllReady.cons rfl (fun K hK => ?_) ?_
        · go_simp
          refine hK _ _ ?_; clear hK K
          refine wpAny_ready (rs := [10]) (by kernel_rfl) (by simp) ?_
          refine AllReady.cons rfl (fun K hK => ?_) ?_
          · go_simp
            refine hK _ _ ?_; clear hK K
            refine wpAny_ready (rs := [11]) (by kernel_rfl) (by simp) ?_
            refine AllReady.cons rfl (fun K hK => ?_) ?_
            · go_simp; refine (H2.out).mono ?_; rintro e w4 ⟨rfl, hF4, hK4⟩; have HY := Lib.hid (And.intro hF4 hK4); clear hF4 hK4
              refine hK _ _ ?_; clear hK K
              refine wpAny_take (i := 12) (v := ?_) rfl (by kernel_rfl) (by kernel_rfl) (by kernel_rfl) (fun _ _ _ h => h) (Or.inl ⟨by rfl, ?_⟩) ?_
              rotate_left 1
              · intro w; go_simp; try with_reducible rfl
              refine wpAny_take (i := 13) (v := ?_) rfl (by kernel_rfl) (by kernel_rfl) (by kernel_rfl) (fun _ _ _ h => h) (Or.inl ⟨by rfl, ?_⟩) ?_
              rotate_left 1
              · intro w; go_simp; try with_reducible rfl
              refine wpAny_done (by kernel_rfl) ?_ _
              clear d0 d1 d2 d3 d4 d5 d6 d7 d8 H2
              go_wp2_with fail
              go_ret
              exact ⟨rfl, act_out HY.out.1 (fun x hx => List.mem_cons_of_mem _ hx) HF.out.2 HF.out.1 HE.out.1 HE.out.2 HY.out.2⟩
            exact AllReady.nil
          exact AllReady.nil
        refine AllReady.cons rfl (fun K hK => ?_) ?_
        · go_simp
          refine hK _ _ ?_; clear hK K
          refine wpAny_ready (rs := [8]) (by kernel_rfl) (by simp) ?_
          refine AllReady.cons rfl (fun K hK => ?_) ?_
          · go_simp
            refine hK _ _ ?_; clear hK K
            refine wpAny_ready (rs := [11]) (by kernel_rfl) (by simp) ?_
            refine AllReady.cons rfl (fun K hK => ?_) ?_
            · go_simp; refine (H2.out).mono ?_; rintro e w4 ⟨rfl, hF4, hK4⟩; have HY := Lib.hid (And.intro hF4 hK4); clear hF4 hK4
              refine hK _ _ ?_; clear hK K
              refine wpAny_take (i := 12) (v := ?_) rfl (by kernel_rfl) (by kernel_rfl) (by kernel_rfl) (fun _ _ _ h => h) (Or.inl ⟨by rfl, ?_⟩) ?_
              rotate_left 1
              · intro w; go_simp; try with_reducible rfl
              refine wpAny_take (i := 13) (v := ?_) rfl (by kernel_rfl) (by kernel_rfl) (by kernel_rfl) (fun _ _ _ h => h) (Or.inl ⟨by rfl, ?_⟩) ?_
              rotate_left 1
              · intro w; go_simp; try with_reducible rfl
              refine wpAny_done (by kernel_rfl) ?_ _
              clear d0 d1 d2 d3 d4 d5 d6 d7 d8 H2
              go_wp2_with fail
              go_ret
              exact ⟨rfl, act_out HY.out.1 (fun x hx => List.mem_cons_of_mem _ hx) HF.out.2 HF.out.1 HE.out.1 HE.out.2 HY.out.2⟩
            exact AllReady.nil
          exact AllReady.nil
        exact AllReady.nil
      refine AllReady.cons rfl (fun K hK => ?_) ?_
      · go_simp
        refine hK _ _ ?_; clear hK K
        refine wpAny_ready (rs := [5, 10]) (by kernel_rfl) (by simp) ?_
        refine AllReady.cons rfl (fun K hK => ?_) ?_
        · go_simp; refine (H1.out).mono ?_; rintro e w3 ⟨rfl, hF3, hK3⟩; obtain ⟨d0, d1, d2, d3, d4, d5, d6, d7, d8, H2, HE⟩ := NX.out w3 _ hF3 hK3; clear hF3 hK3
          refine hK _ _ ?_; clear hK K
          refine wpAny_ready (rs := [10]) (by kernel_rfl) (by simp) ?_
          refine AllReady.cons rfl (fun K hK => ?_) ?_
          · go_simp
            refine hK _ _ ?_; clear hK K
            refine wpAny_ready (rs := [11]) (by kernel_rfl) (by simp) ?_
            refine AllReady.cons rfl (fun K hK => ?_) ?_
            · go_simp; refine (H2.out).mono ?_; rintro e w4 ⟨rfl, hF4, hK4⟩; have HY := Lib.hid (And.intro hF4 hK4); clear hF4 hK4
              refine hK _ _ ?_; clear hK K
              refine wpAny_take (i := 12) (v := ?_) rfl (by kernel_rfl) (by kernel_rfl) (by kernel_rfl) (fun _ _ _ h => h) (Or.inl ⟨by rfl, ?_⟩) ?_
              rotate_left 1
              · intro w; go_simp; try with_reducible rfl
              refine wpAny_take (i := 13) (v := ?_) rfl (by kernel_rfl) (by kernel_rfl) (by kernel_rfl) (fun _ _ _ h => h) (Or.inl ⟨by rfl, ?_⟩) ?_
              rotate_left 1
              · intro w; go_simp; try with_reducible rfl
              refine wpAny_done (by kernel_rfl) ?_ _
              clear d0 d1 d2 d3 d4 d5 d6 d7 d8 H2
              go_wp2_with fail
              go_ret
              exact ⟨rfl, act_out HY.out.1 (fun x hx => List.mem_cons_of_mem _ hx) HF.out.2 HF.out.1 HE.out.1 HE.out.2 HY.out.2⟩
            exact AllReady.nil
          exact AllReady.nil
        refine AllReady.cons rfl (fun K hK => ?_) ?_
        · go_simp
          refine hK _ _ ?_; clear hK K
          refine wpAny_ready (rs := [5]) (by kernel_rfl) (by simp) ?_
          refine AllReady.cons rfl (fun K hK => ?_) ?_
          · go_simp; refine (H1.out).mono ?_; rintro e w3 ⟨rfl, hF3, hK3⟩; obtain ⟨d0, d1, d2, d3, d4, d5, d6, d7, d8, H2, HE⟩ := NX.out w3 _ hF3 hK3; clear hF3 hK3
            refine hK _ _ ?_; clear hK K
            refine wpAny_ready (rs := [11]) (by kernel_rfl) (by simp) ?_
            refine AllReady.cons rfl (fun K hK => ?_) ?_
            · go_simp; refine (H2.out).mono ?_; rintro e w4 ⟨rfl, hF4, hK4⟩; have HY := Lib.hid (And.intro hF4 hK4); clear hF4 hK4
              refine hK _ _ ?_; clear hK K
              refine wpAny_take (i := 12) (v := ?_) rfl (by kernel_rfl) (by kernel_rfl) (by kernel_rfl) (fun _ _ _ h => h) (Or.inl ⟨by rfl, ?_⟩) ?_
              rotate_left 1
              · intro w; go_simp; try with_reducible rfl
              refine wpAny_take (i := 13) (v := ?_) rfl (by kernel_rfl) (by kernel_rfl) (by kernel_rfl) (fun _ _ _ h => h) (Or.inl ⟨by rfl, ?_⟩) ?_
              rotate_left 1
              · intro w; go_simp; try with_reducible rfl
              refine wpAny_done (by kernel_rfl) ?_ _
              clear d0 d1 d2 d3 d4 d5 d6 d7 d8 H2
              go_wp2_with fail
              go_ret
              exact ⟨rfl, act_out HY.out.1 (fun x hx => List.mem_cons_of_mem _ hx) HF.out.2 HF.out.1 HE.out.1 HE.out.2 HY.out.2⟩
            exact AllReady.nil
          exact AllReady.nil
        exact AllReady.nil
      refine AllReady.cons rfl (fun K hK => ?_) ?_
      · go_simp
        refine hK _ _ ?_; clear hK K
        refine wpAny_ready (rs := [5, 8]) (by kernel_rfl) (by simp) ?_
        refine AllReady.cons rfl (fun K hK => ?_) ?_
        · go_simp; refine (H1.out).mono ?_; rintro e w3 ⟨rfl, hF3, hK3⟩; obtain ⟨d0, d1, d2, d3, d4, d5, d6, d7, d8, H2, HE⟩ := NX.out w3 _ hF3 hK3; clear hF3 hK3
          refine hK _ _ ?_; clear hK K
          refine wpAny_ready (rs := [8]) (by kernel_rfl) (by simp) ?_
          refine AllReady.cons rfl (fun K hK => ?_) ?_
          · go_simp
            refine hK _ _ ?_; clear hK K
            refine wpAny_ready (rs := [11]) (by kernel_rfl) (by simp) ?_
            refine AllReady.cons rfl (fun K hK => ?_) ?_
            · go_simp; refine (H2.out).mono ?_; rintro e w4 ⟨rfl, hF4, hK4⟩; have HY := Lib.hid (And.intro hF4 hK4); clear hF4 hK4
              refine hK _ _ ?_; clear hK K
              refine wpAny_take (i := 12) (v := ?_) rfl (by kernel_rfl) (by kernel_rfl) (by kernel_rfl) (fun _ _ _ h => h) (Or.inl ⟨by rfl, ?_⟩) ?_
              rotate_left 1
              · intro w; go_simp; try with_reducible rfl
              refine wpAny_take (i := 13) (v := ?_) rfl (by kernel_rfl) (by kernel_rfl) (by kernel_rfl) (fun _ _ _ h => h) (Or.inl ⟨by rfl, ?_⟩) ?_
              rotate_left 1
              · intro w; go_simp; try with_reducible rfl
              refine wpAny_done (by kernel_rfl) ?_ _
              clear d0 d1 d2 d3 d4 d5 d6 d7 d8 H2
              go_wp2_with fail
              go_ret
              exact ⟨rfl, act_out HY.out.1 (fun x hx => List.mem_cons_of_mem _ hx) HF.out.2 HF.out.1 HE.out.1 HE.out.2 HY.out.2⟩
            exact AllReady.nil
          exact AllReady.nil
        refine AllReady.cons rfl (fun K hK => ?_) ?_
        · go_simp
          refine hK _ _ ?_; clear hK K
          refine wpAny_ready (rs := [5]) (by kernel_rfl) (by simp) ?_
          refine AllReady.cons rfl (fun K hK => ?_) ?_
          · go_simp; refine (H1.out).mono ?_; rintro e w3 ⟨rfl, hF3, hK3⟩; obtain ⟨d0, d1, d2, d3, d4, d5, d6, d7, d8, H2, HE⟩ := NX.out w3 _ hF3 hK3; clear hF3 hK3
            refine hK _ _ ?_; clear hK K
            refine wpAny_ready (rs := [11]) (by kernel_rfl) (by simp) ?_
            refine AllReady.cons rfl (fun K hK => ?_) ?_
            · go_simp; refine (H2.out).mono ?_; rintro e w4 ⟨rfl, hF4, hK4⟩; have HY := Lib.hid (And.intro hF4 hK4); clear hF4 hK4
              refine hK _ _ ?_; clear hK K
              refine wpAny_take (i := 12) (v := ?_) rfl (by kernel_rfl) (by kernel_rfl) (by kernel_rfl) (fun _ _ _ h => h) (Or.inl ⟨by rfl, ?_⟩) ?_
              rotate_left 1
              · intro w; go_simp; try with_reducible rfl
              refine wpAny_take (i := 13) (v := ?_) rfl (by kernel_rfl) (by kernel_rfl) (by kernel_rfl) (fun _ _ _ h => h) (Or.inl ⟨by rfl, ?_⟩) ?_
              rotate_left 1
              · intro w; go_simp; try with_reducible rfl
              refine wpAny_done (by kernel_rfl) ?_ _
              clear d0 d1 d2 d3 d4 d5 d6 d7 d8 H2
              go_wp2_with fail
              go_ret
              exact ⟨rfl, act_out HY.out.1 (fun x hx => List.mem_cons_of_mem _ hx) HF.out.2 HF.out.1 HE.out.1 HE.out.2 HY.out.2⟩
            exact AllReady.nil
          exact AllReady.nil
        exact AllReady.nil
      exact AllReady.nil
    refine AllReady.cons rfl (fun K hK => ?_) ?_
    · go_simp
      refine hK _ _ ?_; clear hK K
      refine wpAny_ready (rs := [2, 10]) (by kernel_rfl) (by simp) ?_
      refine AllReady.cons rfl (fun K hK => ?_) ?_
      · go_simp
        refine hK _ _ ?_; clear hK K
        refine wpAny_ready (rs := [5, 10]) (by kernel_rfl) (by simp) ?_
        refine AllReady.cons rfl (fun K hK => ?_) ?_
        · go_simp; refine (H1.out).mono ?_; rintro e w3 ⟨rfl, hF3, hK3⟩; obtain ⟨d0, d1, d2, d3, d4, d5, d6, d7, d8, H2, HE⟩ := NX.out w3 _ hF3 hK3; clear hF3 hK3
          refine hK _ _ ?_; clear hK K
          refine wpAny_ready (rs := [10]) (by kernel_rfl) (by simp) ?_
          refine AllReady.cons rfl (fun K hK => ?_) ?_
          · go_simp
            refine hK _ _ ?_; clear hK K
            refine wpAny_ready (rs := [11]) (by kernel_rfl) (by simp) ?_
            refine AllReady.cons rfl (fun K hK => ?_) ?_
            · go_simp; refine (H2.out).mono ?_; rintro e w4 ⟨rfl, hF4, hK4⟩; have HY := Lib.hid (And.intro hF4 hK4); clear hF4 hK4
              refine hK _ _ ?_; clear hK K
              refine wpAny_take (i := 12) (v := ?_) rfl (by kernel_rfl) (by kernel_rfl) (by kernel_rfl) (fun _ _ _ h => h) (Or.inl ⟨by rfl, ?_⟩) ?_
              rotate_left 1
              · intro w; go_simp; try with_reducible rfl
              refine wpAny_take (i := 13) (v := ?_) rfl (by kernel_rfl) (by kernel_rfl) (by kernel_rfl) (fun _ _ _ h => h) (Or.inl ⟨by rfl, ?_⟩) ?_
              rotate_left 1
              · intro w; go_simp; try with_reducible rfl
              refine wpAny_done (by kernel_rfl) ?_ _
              clear d0 d1 d2 d3 d4 d5 d6 d7 d8 H2
              go_wp2_with fail
              go_ret
              exact ⟨rfl, act_out HY.out.1 (fun x hx => List.mem_cons_of_mem _ hx) HF.out.2 HF.out.1 HE.out.1 HE.out.2 HY.out.2⟩
            exact AllReady.nil
          exact AllReady.nil
        refine AllReady.cons rfl (fun K hK => ?_) ?_
        · go_simp
          refine hK _ _ ?_; clear hK K
          refine wpAny_ready (rs := [5]) (by kernel_rfl) (by simp) ?_
          refine AllReady.cons rfl (fun K hK => ?_) ?_
          · go_simp; refine (H1.out).mono ?_; rintro e w3 ⟨rfl, hF3, hK3⟩; obtain ⟨d0, d1, d2, d3, d4, d5, d6, d7, d8, H2, HE⟩ := NX.out w3 _ hF3 hK3; clear hF3 hK3
            refine hK _ _ ?_; clear hK K
            refine wpAny_ready (rs := [11]) (by kernel_rfl) (by simp) ?_
            refine AllReady.cons rfl (fun K hK => ?_) ?_
            · go_simp; refine (H2.out).mono ?_; rintro e w4 ⟨rfl, hF4, hK4⟩; have HY := Lib.hid (And.intro hF4 hK4); clear hF4 hK4
              refine hK _ _ ?_; clear hK K
              refine wpAny_take (i := 12) (v := ?_) rfl (by kernel_rfl) (by kernel_rfl) (by kernel_rfl) (fun _ _ _ h => h) (Or.inl ⟨by rfl, ?_⟩) ?_
              rotate_left 1
              · intro w; go_simp; try with_reducible rfl
              refine wpAny_take (i := 13) (v := ?_) rfl (by kernel_rfl) (by kernel_rfl) (by kernel_rfl) (fun _ _ _ h => h) (Or.inl ⟨by rfl, ?_⟩) ?_
              rotate_left 1
              · intro w; go_simp; try with_reducible rfl
              refine wpAny_done (by kernel_rfl) ?_ _
              clear d0 d1 d2 d3 d4 d5 d6 d7 d8 H2
              go_wp2_with fail
              go_ret
              exact ⟨rfl, act_out HY.out.1 (fun x hx => List.mem_cons_of_mem _ hx) HF.out.2 HF.out.1 HE.out.1 HE.out.2 HY.out.2⟩
            exact AllReady.nil
          exact AllReady.nil
        exact AllReady.nil
      refine AllReady.cons rfl (fun K hK => ?_) ?_
      · go_simp
        refine hK _ _ ?_; clear hK K
        refine wpAny_ready (rs := [2]) (by kernel_rfl) (by simp) ?_
        refine AllReady.cons rfl (fun K hK => ?_) ?_
        · go_simp
          refine hK _ _ ?_; clear hK K
          refine wpAny_ready (rs := [5]) (by kernel_rfl) (by simp) ?_
          refine AllReady.cons rfl (fun K hK => ?_) ?_
          · go_simp; refine (H1.out).mono ?_; rintro e w3 ⟨rfl, hF3, hK3⟩; obtain ⟨d0, d1, d2, d3, d4, d5, d6, d7, d8, H2, HE⟩ := NX.out w3 _ hF3 hK3; clear hF3 hK3
            refine hK _ _ ?_; clear hK K
            refine wpAny_ready (rs := [11]) (by kernel_rfl) (by simp) ?_
            refine AllReady.cons rfl (fun K hK => ?_) ?_
            · go_simp; refine (H2.out).mono ?_; rintro e w4 ⟨rfl, hF4, hK4⟩; have HY := Lib.hid (And.intro hF4 hK4); clear hF4 hK4
              refine hK _ _ ?_; clear hK K
              refine wpAny_take (i := 12) (v := ?_) rfl (by kernel_rfl) (by kernel_rfl) (by kernel_rfl) (fun _ _ _ h => h) (Or.inl ⟨by rfl, ?_⟩) ?_
              rotate_left 1
              · intro w; go_simp; try with_reducible rfl
              refine wpAny_take (i := 13) (v := ?_) rfl (by kernel_rfl) (by kernel_rfl) (by kernel_rfl) (fun _ _ _ h => h) (Or.inl ⟨by rfl, ?_⟩) ?_
              rotate_left 1
              · intro w; go_simp; try with_reducible rfl
              refine wpAny_done (by kernel_rfl) ?_ _
              clear d0 d1 d2 d3 d4 d5 d6 d7 d8 H2
              go_wp2_with fail
              go_ret
              exact ⟨rfl, act_out HY.out.1 (fun x hx => List.mem_cons_of_mem _ hx) HF.out.2 HF.out.1 HE.out.1 HE.out.2 HY.out.2⟩
            exact AllReady.nil
          exact AllReady.nil
        exact AllReady.nil
      exact AllReady.nil
    refine AllReady.cons rfl (fun K hK => ?_) ?_
    · go_simp
      refine hK _ _ ?_; clear hK K
      refine wpAny_ready (rs := [2, 8]) (by kernel_rfl) (by simp) ?_
      refine AllReady.cons rfl (fun K hK => ?_) ?_
      · go_simp
        refine hK _ _ ?_; clear hK K
        refine wpAny_ready (rs := [5, 8]) (by kernel_rfl) (by simp) ?_
        refine AllReady.cons rfl (fun K hK => ?_) ?_
        · go_simp; refine (H1.out).mono ?_; rintro e w3 ⟨rfl, hF3, hK3⟩; obtain ⟨d0, d1, d2, d3, d4, d5, d6, d7, d8, H2, HE⟩ := NX.out w3 _ hF3 hK3; clear hF3 hK3
          refine hK _ _ ?_; clear hK K
          refine wpAny_ready (rs := [8]) (by kernel_rfl) (by simp) ?_
          refine AllReady.cons rfl (fun K hK => ?_) ?_
          · go_simp
            refine hK _ _ ?_; clear hK K
            refine wpAny_ready (rs := [11]) (by kernel_rfl) (by simp) ?_
            refine AllReady.cons rfl (fun K hK => ?_) ?_
            · go_simp; refine (H2.out).mono ?_; rintro e w4 ⟨rfl, hF4, hK4⟩; have HY := Lib.hid (And.intro hF4 hK4); clear hF4 hK4
              refine hK _ _ ?_; clear hK K
              refine wpAny_take (i := 12) (v := ?_) rfl (by kernel_rfl) (by kernel_rfl) (by kernel_rfl) (fun _ _ _ h => h) (Or.inl ⟨by rfl, ?_⟩) ?_
              rotate_left 1
              · intro w; go_simp; try with_reducible rfl
              refine wpAny_take (i := 13) (v := ?_) rfl (by kernel_rfl) (by kernel_rfl) (by kernel_rfl) (fun _ _ _ h => h) (Or.inl ⟨by rfl, ?_⟩) ?_
              rotate_left 1
              · intro w; go_simp; try with_reducible rfl
              refine wpAny_done (by kernel_rfl) ?_ _
              clear d0 d1 d2 d3 d4 d5 d6 d7 d8 H2
              go_wp2_with fail
              go_ret
              exact ⟨rfl, act_out HY.out.1 (fun x hx => List.mem_cons_of_mem _ hx) HF.out.2 HF.out.1 HE.out.1 HE.out.2 HY.out.2⟩
            exact AllReady.nil
          exact AllReady.nil
        refine AllReady.cons rfl (fun K hK => ?_) ?_
        · go_simp
          refine hK _ _ ?_; clear hK K
          refine wpAny_ready (rs := [5]) (by kernel_rfl) (by simp) ?_
          refine AllReady.cons rfl (fun K hK => ?_) ?_
          · go_simp; refine (H1.out).mono ?_; rintro e w3 ⟨rfl, hF3, hK3⟩; obtain ⟨d0, d1, d2, d3, d4, d5, d6, d7, d8, H2, HE⟩ := NX.out w3 _ hF3 hK3; clear hF3 hK3
            refine hK _ _ ?_; clear hK K
            refine wpAny_ready (rs := [11]) (by kernel_rfl) (by simp) ?_
            refine AllReady.cons rfl (fun K hK => ?_) ?_
            · go_simp; refine (H2.out).mono ?_; rintro e w4 ⟨rfl, hF4, hK4⟩; have HY := Lib.hid (And.intro hF4 hK4); clear hF4 hK4
              refine hK _ _ ?_; clear hK K
              refine wpAny_take (i := 12) (v := ?_) rfl (by kernel_rfl) (by kernel_rfl) (by kernel_rfl) (fun _ _ _ h => h) (Or.inl ⟨by rfl, ?_⟩) ?_
              rotate_left 1
              · intro w; go_simp; try with_reducible rfl
              refine wpAny_take (i := 13) (v := ?_) rfl (by kernel_rfl) (by kernel_rfl) (by kernel_rfl) (fun _ _ _ h => h) (Or.inl ⟨by rfl, ?_⟩) ?_
              rotate_left 1
              · intro w; go_simp; try with_reducible rfl
              refine wpAny_done (by kernel_rfl) ?_ _
              clear d0 d1 d2 d3 d4 d5 d6 d7 d8 H2
              go_wp2_with fail
              go_ret
              exact ⟨rfl, act_out HY.out.1 (fun x hx => List.mem_cons_of_mem _ hx) HF.out.2 HF.out.1 HE.out.1 HE.out.2 HY.out.2⟩
            exact AllReady.nil
          exact AllReady.nil
        exact AllReady.nil
      refine AllReady.cons rfl (fun K hK => ?_) ?_
      · go_simp
        refine hK _ _ ?_; clear hK K
        refine wpAny_ready (rs := [2]) (by kernel_rfl) (by simp) ?_
        refine AllReady.cons rfl (fun K hK => ?_) ?_
        · go_simp
          refine hK _ _ ?_; clear hK K
          refine wpAny_ready (rs := [5]) (by kernel_rfl) (by simp) ?_
          refine AllReady.cons rfl (fun K hK => ?_) ?_
          · go_simp; refine (H1.out).mono ?_; rintro e w3 ⟨rfl, hF3, hK3⟩; obtain ⟨d0, d1, d2, d3, d4, d5, d6, d7, d8, H2, HE⟩ := NX.out w3 _ hF3 hK3; clear hF3 hK3
            refine hK _ _ ?_; clear hK K
            refine wpAny_ready (rs := [11]) (by kernel_rfl) (by simp) ?_
            refine AllReady.cons rfl (fun K hK => ?_) ?_
            · go_simp; refine (H2.out).mono ?_; rintro e w4 ⟨rfl, hF4, hK4⟩; have HY := Lib.hid (And.intro hF4 hK4); clear hF4 hK4
              refine hK _ _ ?_; clear hK K
              refine wpAny_take (i := 12) (v := ?_) rfl (by kernel_rfl) (by kernel_rfl) (by kernel_rfl) (fun _ _ _ h => h) (Or.inl ⟨by rfl, ?_⟩) ?_
              rotate_left 1
              · intro w; go_simp; try with_reducible rfl
              refine wpAny_take (i := 13) (v := ?_) rfl (by kernel_rfl) (by kernel_rfl) (by kernel_rfl) (fun _ _ _ h => h) (Or.inl ⟨by rfl, ?_⟩) ?_
              rotate_left 1
              · intro w; go_simp; try with_reducible rfl
              refine wpAny_done (by kernel_rfl) ?_ _
              clear d0 d1 d2 d3 d4 d5 d6 d7 d8 H2
              go_wp2_with fail
              go_ret
              exact ⟨rfl, act_out HY.out.1 (fun x hx => List.mem_cons_of_mem _ hx) HF.out.2 HF.out.1 HE.out.1 HE.out.2 HY.out.2⟩
            exact AllReady.nil
          exact AllReady.nil
        exact AllReady.nil
      exact AllReady.nil
    exact AllReady.nil
  refine AllReady.cons rfl (fun K hK => ?_) ?_
  · go_simp
    refine hK _ _ ?_; clear hK K
    refine wpAny_ready (rs := [2, 4, 10]) (by kernel_rfl) (by simp) ?_
    refine AllReady.cons rfl (fun K hK => ?_) ?_
    · go_simp
      refine hK _ _ ?_; clear hK K
      refine wpAny_ready (rs := [4, 10]) (by kernel_rfl) (by simp) ?_
      refine AllReady.cons rfl (fun K hK => ?_) ?_
      · go_simp
        refine hK _ _ ?_; clear hK K
        refine wpAny_ready (rs := [5, 10]) (by kernel_rfl) (by simp) ?_
        refine AllReady.cons rfl (fun K hK => ?_) ?_
        · go_simp; refine (H1.out).mono ?_; rintro e w3 ⟨rfl, hF3, hK3⟩; obtain ⟨d0, d1, d2, d3, d4, d5, d6, d7, d8, H2, HE⟩ := NX.out w3 _ hF3 hK3; clear hF3 hK3
          refine hK _ _ ?_; clear hK K
          refine wpAny_ready (rs := [10]) (by kernel_rfl) (by simp) ?_
          refine AllReady.cons rfl (fun K hK => ?_) ?_
          · go_simp
            refine hK _ _ ?_; clear hK K
            refine wpAny_ready (rs := [11]) (by kernel_rfl) (by simp) ?_
            refine AllReady.cons rfl (fun K hK => ?_) ?_
            · go_simp; refine (H2.out).mono ?_; rintro e w4 ⟨rfl, hF4, hK4⟩; have HY := Lib.hid (And.intro hF4 hK4); clear hF4 hK4
              refine hK _ _ ?_; clear hK K
              refine wpAny_take (i := 12) (v := ?_) rfl (by kernel_rfl) (by kernel_rfl) (by kernel_rfl) (fun _ _ _ h => h) (Or.inl ⟨by rfl, ?_⟩) ?_
              rotate_left 1
              · intro w; go_simp; try with_reducible rfl
              refine wpAny_take (i := 13) (v := ?_) rfl (by kernel_rfl) (by kernel_rfl) (by kernel_rfl) (fun _ _ _ h => h) (Or.inl ⟨by rfl, ?_⟩) ?_
              rotate_left 1
              · intro w; go_simp; try with_reducible rfl
              refine wpAny_done (by kernel_rfl) ?_ _
              clear d0 d1 d2 d3 d4 d5 d6 d7 d8 H2
              go_wp2_with fail
              go_ret
              exact ⟨rfl, act_out HY.out.1 (fun x hx => List.mem_cons_of_mem _ hx) HF.out.2 HF.out.1 HE.out.1 HE.out.2 HY.out.2⟩
            exact AllReady.nil
          exact AllReady.nil
        refine AllReady.cons rfl (fun K hK => ?_) ?_
        · go_simp
          refine hK _ _ ?_; clear hK K
          refine wpAny_ready (rs := [5]) (by kernel_rfl) (by simp) ?_
          refine AllReady.cons rfl (fun K hK => ?_) ?_
          · go_simp; refine (H1.out).mono ?_; rintro e w3 ⟨rfl, hF3, hK3⟩; obtain ⟨d0, d1, d2, d3, d4, d5, d6, d7, d8, H2, HE⟩ := NX.out w3 _ hF3 hK3; clear hF3 hK3
            refine hK _ _ ?_; clear hK K
            refine wpAny_ready (rs := [11]) (by kernel_rfl) (by simp) ?_
            refine AllReady.cons rfl (fun K hK => ?_) ?_
            · go_simp; refine (H2.out).mono ?_; rintro e w4 ⟨rfl, hF4, hK4⟩; have HY := Lib.hid (And.intro hF4 hK4); clear hF4 hK4
              refine hK _ _ ?_; clear hK K
              refine wpAny_take (i := 12) (v := ?_) rfl (by kernel_rfl) (by kernel_rfl) (by kernel_rfl) (fun _ _ _ h => h) (Or.inl ⟨by rfl, ?_⟩) ?_
              rotate_left 1
              · intro w; go_simp; try with_reducible rfl
              refine wpAny_take (i := 13) (v := ?_) rfl (by kernel_rfl) (by kernel_rfl) (by kernel_rfl) (fun _ _ _ h => h) (Or.inl ⟨by rfl, ?_⟩) ?_
              rotate_left 1
              · intro w; go_simp; try with_reducible rfl
              refine wpAny_done (by kernel_rfl) ?_ _
              clear d0 d1 d2 d3 d4 d5 d6 d7 d8 H2
              go_wp2_with fail
              go_ret
              exact ⟨rfl, act_out HY.out.1 (fun x hx => List.mem_cons_of_mem _ hx) HF.out.2 HF.out.1 HE.out.1 HE.out.2 HY.out.2⟩
            exact AllReady.nil
          exact AllReady.nil
        exact AllReady.nil
      refine AllReady.cons rfl (fun K hK => ?_) ?_
      · go_simp
        refine hK _ _ ?_; clear hK K
        refine wpAny_ready (rs := [4]) (by kernel_rfl) (by simp) ?_
        refine AllReady.cons rfl (fun K hK => ?_) ?_
        · go_simp
          refine hK _ _ ?_; clear hK K
          refine wpAny_ready (rs := [5]) (by kernel_rfl) (by simp) ?_
          refine AllReady.cons rfl (fun K hK => ?_) ?_
          · go_simp; refine (H1.out).mono ?_; rintro e w3 ⟨rfl, hF3, hK3⟩; obtain ⟨d0, d1, d2, d3, d4, d5, d6, d7, d8, H2, HE⟩ := NX.out w3 _ hF3 hK3; clear hF3 hK3
            refine hK _ _ ?_; clear hK K
            refine wpAny_ready (rs := [11]) (by kernel_rfl) (by simp) ?_
            refine AllReady.cons rfl (fun K hK => ?_) ?_
            · go_simp; refine (H2.out).mono ?_; rintro e w4 ⟨rfl, hF4, hK4⟩; have HY := Lib.hid (And.intro hF4 hK4); clear hF4 hK4
              refine hK _ _ ?_; clear hK K
              refine wpAny_take (i := 12) (v := ?_) rfl (by kernel_rfl) (by kernel_rfl) (by kernel_rfl) (fun _ _ _ h => h) (Or.inl ⟨by rfl, ?_⟩) ?_
              rotate_left 1
              · intro w; go_simp; try with_reducible rfl
              refine wpAny_take (i := 13) (v := ?_) rfl (by kernel_rfl) (by kernel_rfl) (by kernel_rfl) (fun _ _ _ h => h) (Or.inl ⟨by rfl, ?_⟩) ?_
              rotate_left 1
              · intro w; go_simp; try with_reducible rfl
              refine wpAny_done (by kernel_rfl) ?_ _
              clear d0 d1 d2 d3 d4 d5 d6 d7 d8 H2
              go_wp2_with fail
              go_ret
              exact ⟨rfl, act_out HY.out.1 (fun x hx => List.mem_cons_of_mem _ hx) HF.out.2 HF.out.1 HE.out.1 HE.out.2 HY.out.2⟩
            exact AllReady.nil
          exact AllReady.nil
        exact AllReady.nil
      exact AllReady.nil
    refine AllReady.cons rfl (fun K hK => ?_) ?_
    · go_simp
      refine hK _ _ ?_; clear hK K
      refine wpAny_ready (rs := [2, 10]) (by kernel_rfl) (by simp) ?_
      refine AllReady.cons rfl (fun K hK => ?_) ?_
      · go_simp
        refine hK _ _ ?_; clear hK K
        refine wpAny_ready (rs := [5, 10]) (by kernel_rfl) (by simp) ?_
        refine AllReady.cons rfl (fun K hK => ?_) ?_
        · go_simp; refine (H1.out).mono ?_; rintro e w3 ⟨rfl, hF3, hK3⟩; obtain ⟨d0, d1, d2, d3, d4, d5, d6, d7, d8, H2, HE⟩ := NX.out w3 _ hF3 hK3; clear hF3 hK3
          refine hK _ _ ?_; clear hK K
          refine wpAny_ready (rs := [10]) (by kernel_rfl) (by simp) ?_
          refine AllReady.cons rfl (fun K hK => ?_) ?_
          · go_simp
            refine hK _ _ ?_; clear hK K
            refine wpAny_ready (rs := [11]) (by kernel_rfl) (by simp) ?_
            refine AllReady.cons rfl (fun K hK => ?_) ?_
            · go_simp; refine (H2.out).mono ?_; rintro e w4 ⟨rfl, hF4, hK4⟩; have HY := Lib.hid (And.intro hF4 hK4); clear hF4 hK4
              refine hK _ _ ?_; clear hK K
              refine wpAny_take (i := 12) (v := ?_) rfl (by kernel_rfl) (by kernel_rfl) (by kernel_rfl) (fun _ _ _ h => h) (Or.inl ⟨by rfl, ?_⟩) ?_
              rotate_left 1
              · intro w; go_simp; try with_reducible rfl
              refine wpAny_take (i := 13) (v := ?_) rfl (by kernel_rfl) (by kernel_rfl) (by kernel_rfl) (fun _ _ _ h => h) (Or.inl ⟨by rfl, ?_⟩) ?_
              rotate_left 1
              · intro w; go_simp; try with_reducible rfl
              refine wpAny_done (by kernel_rfl) ?_ _
              clear d0 d1 d2 d3 d4 d5 d6 d7 d8 H2
              go_wp2_with fail
              go_ret
              exact ⟨rfl, act_out HY.out.1 (fun x hx => List.mem_cons_of_mem _ hx) HF.out.2 HF.out.1 HE.out.1 HE.out.2 HY.out.2⟩
            exact AllReady.nil
          exact AllReady.nil
        refine AllReady.cons rfl (fun K hK => ?_) ?_
        · go_simp
          refine hK _ _ ?_; clear hK K
          refine wpAny_ready (rs := [5]) (by kernel_rfl) (by simp) ?_
          refine AllReady.cons rfl (fun K hK => ?_) ?_
          · go_simp; refine (H1.out).mono ?_; rintro e w3 ⟨rfl, hF3, hK3⟩; obtain ⟨d0, d1, d2, d3, d4, d5, d6, d7, d8, H2, HE⟩ := NX.out w3 _ hF3 hK3; clear hF3 hK3
            refine hK _ _ ?_; clear hK K
            refine wpAny_ready (rs := [11]) (by kernel_rfl) (by simp) ?_
            refine AllReady.cons rfl (fun K hK => ?_) ?_
            · go_simp; refine (H2.out).mono ?_; rintro e w4 ⟨rfl, hF4, hK4⟩; have HY := Lib.hid (And.intro hF4 hK4); clear hF4 hK4
              refine hK _ _ ?_; clear hK K
              refine wpAny_take (i := 12) (v := ?_) rfl (by kernel_rfl) (by kernel_rfl) (by kernel_rfl) (fun _ _ _ h => h) (Or.inl ⟨by rfl, ?_⟩) ?_
              rotate_left 1
              · intro w; go_simp; try with_reducible rfl
              refine wpAny_take (i := 13) (v := ?_) rfl (by kernel_rfl) (by kernel_rfl) (by kernel_rfl) (fun _ _ _ h => h) (Or.inl ⟨by rfl, ?_⟩) ?_
              rotate_left 1
              · intro w; go_simp; try with_reducible rfl
              refine wpAny_done (by kernel_rfl) ?_ _
              clear d0 d1 d2 d3 d4 d5 d6 d7 d8 H2
              go_wp2_with fail
              go_ret
              exact ⟨rfl, act_out HY.out.1 (fun x hx => List.mem_cons_of_mem _ hx) HF.out.2 HF.out.1 HE.out.1 HE.out.2 HY.out.2⟩
            exact AllReady.nil
          exact AllReady.nil
        exact AllReady.nil
      refine AllReady.cons rfl (fun K hK => ?_) ?_
      · go_simp
        refine hK _ _ ?_; clear hK K
        refine wpAny_ready (rs := [2]) (by kernel_rfl) (by simp) ?_
        refine AllReady.cons rfl (fun K hK => ?_) ?_
        · go_simp
          refine hK _ _ ?_; clear hK K
          refine wpAny_ready (rs := [5]) (by kernel_rfl) (by simp) ?_
          refine AllReady.cons rfl (fun K hK => ?_) ?_
          · go_simp; refine (H1.out).mono ?_; rintro e w3 ⟨rfl, hF3, hK3⟩; obtain ⟨d0, d1, d2, d3, d4, d5, d6, d7, d8, H2, HE⟩ := NX.out w3 _ hF3 hK3; clear hF3 hK3
            refine hK _ _ ?_; clear hK K
            refine wpAny_ready (rs := [11]) (by kernel_rfl) (by simp) ?_
            refine AllReady.cons rfl (fun K hK => ?_) ?_
            · go_simp; refine (H2.out).mono ?_; rintro e w4 ⟨rfl, hF4, hK4⟩; have HY := Lib.hid (And.intro hF4 hK4); clear hF4 hK4
              refine hK _ _ ?_; clear hK K
              refine wpAny_take (i := 12) (v := ?_) rfl (by kernel_rfl) (by kernel_rfl) (by kernel_rfl) (fun _ _ _ h => h) (Or.inl ⟨by rfl, ?_⟩) ?_
              rotate_left 1
              · intro w; go_simp; try with_reducible rfl
              refine wpAny_take (i := 13) (v := ?_) rfl (by kernel_rfl) (by kernel_rfl) (by kernel_rfl) (fun _ _ _ h => h) (Or.inl ⟨by rfl, ?_⟩) ?_
              rotate_left 1
              · intro w; go_simp; try with_reducible rfl
              refine wpAny_done (by kernel_rfl) ?_ _
              clear d0 d1 d2 d3 d4 d5 d6 d7 d8 H2
              go_wp2_with fail
              go_ret
              exact ⟨rfl, act_out HY.out.1 (fun x hx => List.mem_cons_of_mem _ hx) HF.out.2 HF.out.1 HE.out.1 HE.out.2 HY.out.2⟩
            exact AllReady.nil
          exact AllReady.nil
        exact AllReady.nil
      exact AllReady.nil
    refine AllReady.cons rfl (fun K hK => ?_) ?_
    · go_simp
      refine hK _ _ ?_; clear hK K
      refine wpAny_ready (rs := [2, 4]) (by kernel_rfl) (by simp) ?_
      refine AllReady.cons rfl (fun K hK => ?_) ?_
      · go_simp
        refine hK _ _ ?_; clear hK K
        refine wpAny_ready (rs := [4]) (by kernel_rfl) (by simp) ?_
        refine AllReady.cons rfl (fun K hK => ?_) ?_
        · go_simp
          refine hK _ _ ?_; clear hK K
          refine wpAny_ready (rs := [5]) (by kernel_rfl) (by simp) ?_
          refine AllReady.cons rfl (fun K hK => ?_) ?_
          · go_simp; refine (H1.out).mono ?_; rintro e w3 ⟨rfl, hF3, hK3⟩; obtain ⟨d0, d1, d2, d3, d4, d5, d6, d7, d8, H2, HE⟩ := NX.out w3 _ hF3 hK3; clear hF3 hK3
            refine hK _ _ ?_; clear hK K
            refine wpAny_ready (rs := [11]) (by kernel_rfl) (by simp) ?_
            refine AllReady.cons rfl (fun K hK => ?_) ?_
            · go_simp; refine (H2.out).mono ?_; rintro e w4 ⟨rfl, hF4, hK4⟩; have HY := Lib.hid (And.intro hF4 hK4); clear hF4 hK4
              refine hK _ _ ?_; clear hK K
              refine wpAny_take (i := 12) (v := ?_) rfl (by kernel_rfl) (by kernel_rfl) (by kernel_rfl) (fun _ _ _ h => h) (Or.inl ⟨by rfl, ?_⟩) ?_
              rotate_left 1
              · intro w; go_simp; try with_reducible rfl
              refine wpAny_take (i := 13) (v := ?_) rfl (by kernel_rfl) (by kernel_rfl) (by kernel_rfl) (fun _ _ _ h => h) (Or.inl ⟨by rfl, ?_⟩) ?_
              rotate_left 1
              · intro w; go_simp; try with_reducible rfl
              refine wpAny_done (by kernel_rfl) ?_ _
              clear d0 d1 d2 d3 d4 d5 d6 d7 d8 H2
              go_wp2_with fail
              go_ret
              exact ⟨rfl, act_out HY.out.1 (fun x hx => List.mem_cons_of_mem _ hx) HF.out.2 HF.out.1 HE.out.1 HE.out.2 HY.out.2⟩
            exact AllReady.nil
          exact AllReady.nil
        exact AllReady.nil
      refine AllReady.cons rfl (fun K hK => ?_) ?_
      · go_simp
        refine hK _ _ ?_; clear hK K
        refine wpAny_ready (rs := [2]) (by kernel_rfl) (by simp) ?_
        refine AllReady.cons rfl (fun K hK => ?_) ?_
        · go_simp
          refine hK _ _ ?_; clear hK K
          refine wpAny_ready (rs := [5]) (by kernel_rfl) (by simp) ?_
          refine AllReady.cons rfl (fun K hK => ?_) ?_
          · go_simp; refine (H1.out).mono ?_; rintro e w3 ⟨rfl, hF3, hK3⟩; obtain ⟨d0, d1, d2, d3, d4, d5, d6, d7, d8, H2, HE⟩ := NX.out w3 _ hF3 hK3; clear hF3 hK3
            refine hK _ _ ?_; clear hK K
            refine wpAny_ready (rs := [11]) (by kernel_rfl) (by simp) ?_
            refine AllReady.cons rfl (fun K hK => ?_) ?_
            · go_simp; refine (H2.out).mono ?_; rintro e w4 ⟨rfl, hF4, hK4⟩; have HY := Lib.hid (And.intro hF4 hK4); clear hF4 hK4
              refine hK _ _ ?_; clear hK K
              refine wpAny_take (i := 12) (v := ?_) rfl (by kernel_rfl) (by kernel_rfl) (by kernel_rfl) (fun _ _ _ h => h) (Or.inl ⟨by rfl, ?_⟩) ?_
              rotate_left 1
              · intro w; go_simp; try with_reducible rfl
              refine wpAny_take (i := 13) (v := ?_) rfl (by kernel_rfl) (by kernel_rfl) (by kernel_rfl) (fun _ _ _ h => h) (Or.inl ⟨by rfl, ?_⟩) ?_
              rotate_left 1
              · intro w; go_simp; try with_reducible rfl
              refine wpAny_done (by kernel_rfl) ?_ _
              clear d0 d1 d2 d3 d4 d5 d6 d7 d8 H2
              go_wp2_with fail
              go_ret
              exact ⟨rfl, act_out HY.out.1 (fun x hx => List.mem_cons_of_mem _ hx) HF.out.2 HF.out.1 HE.out.1 HE.out.2 HY.out.2⟩
            exact AllReady.nil
          exact AllReady.nil
        exact AllReady.nil
      exact AllReady.nil
    exact AllReady.nil
  refine AllReady.cons rfl (fun K hK => ?_) ?_
  · go_simp
    refine hK _ _ ?_; clear hK K
    refine wpAny_ready (rs := [2, 4, 8]) (by kernel_rfl) (by simp) ?_
    refine AllReady.cons rfl (fun K hK => ?_) ?_
    · go_simp
      refine hK _ _ ?_; clear hK K
      refine wpAny_ready (rs := [4, 8]) (by kernel_rfl) (by simp) ?_
      refine AllReady.cons rfl (fun K hK => ?_) ?_
      · go_simp
        refine hK _ _ ?_; clear hK K
        refine wpAny_ready (rs := [5, 8]) (by kernel_rfl) (by simp) ?_
        refine AllReady.cons rfl (fun K hK => ?_) ?_
        · go_simp; refine (H1.out).mono ?_; rintro e w3 ⟨rfl, hF3, hK3⟩; obtain ⟨d0, d1, d2, d3, d4, d5, d6, d7, d8, H2, HE⟩ := NX.out w3 _ hF3 hK3; clear hF3 hK3
          refine hK _ _ ?_; clear hK K
          refine wpAny_ready (rs := [8]) (by kernel_rfl) (by simp) ?_
          refine AllReady.cons rfl (fun K hK => ?_) ?_
          · go_simp
            refine hK _ _ ?_; clear hK K
            refine wpAny_ready (rs := [11]) (by kernel_rfl) (by simp) ?_
            refine AllReady.cons rfl (fun K hK => ?_) ?_
            · go_simp; refine (H2.out).mono ?_; rintro e w4 ⟨rfl, hF4, hK4⟩; have HY := Lib.hid (And.intro hF4 hK4); clear hF4 hK4
              refine hK _ _ ?_; clear hK K
              refine wpAny_take (i := 12) (v := ?_) rfl (by kernel_rfl) (by kernel_rfl) (by kernel_rfl) (fun _ _ _ h => h) (Or.inl ⟨by rfl, ?_⟩) ?_
              rotate_left 1
              · intro w; go_simp; try with_reducible rfl
              refine wpAny_take (i := 13) (v := ?_) rfl (by kernel_rfl) (by kernel_rfl) (by kernel_rfl) (fun _ _ _ h => h) (Or.inl ⟨by rfl, ?_⟩) ?_
              rotate_left 1
              · intro w; go_simp; try with_reducible rfl
              refine wpAny_done (by kernel_rfl) ?_ _
              clear d0 d1 d2 d3 d4 d5 d6 d7 d8 H2
              go_wp2_with fail
              go_ret
              exact ⟨rfl, act_out HY.out.1 (fun x hx => List.mem_cons_of_mem _ hx) HF.out.2 HF.out.1 HE.out.1 HE.out.2 HY.out.2⟩
            exact AllReady.nil
          exact AllReady.nil
        refine AllReady.cons rfl (fun K hK => ?_) ?_
        · go_simp
          refine hK _ _ ?_; clear hK K
          refine wpAny_ready (rs := [5]) (by kernel_rfl) (by simp) ?_
          refine AllReady.cons rfl (fun K hK => ?_) ?_
          · go_simp; refine (H1.out).mono ?_; rintro e w3 ⟨rfl, hF3, hK3⟩; obtain ⟨d0, d1, d2, d3, d4, d5, d6, d7, d8, H2, HE⟩ := NX.out w3 _ hF3 hK3; clear hF3 hK3
            refine hK _ _ ?_; clear hK K
            refine wpAny_ready (rs := [11]) (by kernel_rfl) (by simp) ?_
            refine AllReady.cons rfl (fun K hK => ?_) ?_
            · go_simp; refine (H2.out).mono ?_; rintro e w4 ⟨rfl, hF4, hK4⟩; have HY := Lib.hid (And.intro hF4 hK4); clear hF4 hK4
              refine hK _ _ ?_; clear hK K
              refine wpAny_take (i := 12) (v := ?_) rfl (by kernel_rfl) (by kernel_rfl) (by kernel_rfl) (fun _ _ _ h => h) (Or.inl ⟨by rfl, ?_⟩) ?_
              rotate_left 1
              · intro w; go_simp; try with_reducible rfl
              refine wpAny_take (i := 13) (v := ?_) rfl (by kernel_rfl) (by kernel_rfl) (by kernel_rfl) (fun _ _ _ h => h) (Or.inl ⟨by rfl, ?_⟩) ?_
              rotate_left 1
              · intro w; go_simp; try with_reducible rfl
              refine wpAny_done (by kernel_rfl) ?_ _
              clear d0 d1 d2 d3 d4 d5 d6 d7 d8 H2
              go_wp2_with fail
              go_ret
              exact ⟨rfl, act_out HY.out.1 (fun x hx => List.mem_cons_of_mem _ hx) HF.out.2 HF.out.1 HE.out.1 HE.out.2 HY.out.2⟩
            exact AllReady.nil
          exact AllReady.nil
        exact AllReady.nil
      refine AllReady.cons rfl (fun K hK => ?_) ?_
      · go_simp
        refine hK _ _ ?_; clear hK K
        refine wpAny_ready (rs := [4]) (by kernel_rfl) (by simp) ?_
        refine AllReady.cons rfl (fun K hK => ?_) ?_
        · go_simp
          refine hK _ _ ?_; clear hK K
          refine wpAny_ready (rs := [5]) (by kernel_rfl) (by simp) ?_
          refine AllReady.cons rfl (fun K hK => ?_) ?_
          · go_simp; refine (H1.out).mono ?_; rintro e w3 ⟨rfl, hF3, hK3⟩; obtain ⟨d0, d1, d2, d3, d4, d5, d6, d7, d8, H2, HE⟩ := NX.out w3 _ hF3 hK3; clear hF3 hK3
            refine hK _ _ ?_; clear hK K
            refine wpAny_ready (rs := [11]) (by kernel_rfl) (by simp) ?_
            refine AllReady.cons rfl (fun K hK => ?_) ?_
            · go_simp; refine (H2.out).mono ?_; rintro e w4 ⟨rfl, hF4, hK4⟩; have HY := Lib.hid (And.intro hF4 hK4); clear hF4 hK4
              refine hK _ _ ?_; clear hK K
              refine wpAny_take (i := 12) (v := ?_) rfl (by kernel_rfl) (by kernel_rfl) (by kernel_rfl) (fun _ _ _ h => h) (Or.inl ⟨by rfl, ?_⟩) ?_
              rotate_left 1
              · intro w; go_simp; try with_reducible rfl
              refine wpAny_take (i := 13) (v := ?_) rfl (by kernel_rfl) (by kernel_rfl) (by kernel_rfl) (fun _ _ _ h => h) (Or.inl ⟨by rfl, ?_⟩) ?_
              rotate_left 1
              · intro w; go_simp; try with_reducible rfl
              refine wpAny_done (by kernel_rfl) ?_ _
              clear d0 d1 d2 d3 d4 d5 d6 d7 d8 H2
              go_wp2_with fail
              go_ret
              exact ⟨rfl, act_out HY.out.1 (fun x hx => List.mem_cons_of_mem _ hx) HF.out.2 HF.out.1 HE.out.1 HE.out.2 HY.out.2⟩
            exact AllReady.nil
          exact AllReady.nil
        exact AllReady.nil
      exact AllReady.nil
    refine AllReady.cons rfl (fun K hK => ?_) ?_
    · go_simp
      refine hK _ _ ?_; clear hK K
      refine wpAny_ready (rs := [2, 8]) (by kernel_rfl) (by simp) ?_
      refine AllReady.cons rfl (fun K hK => ?_) ?_
      · go_simp
        refine hK _ _ ?_; clear hK K
        refine wpAny_ready (rs := [5, 8]) (by kernel_rfl) (by simp) ?_
        refine AllReady.cons rfl (fun K hK => ?_) ?_
        · go_simp; refine (H1.out).mono ?_; rintro e w3 ⟨rfl, hF3, hK3⟩; obtain ⟨d0, d1, d2, d3, d4, d5, d6, d7, d8, H2, HE⟩ := NX.out w3 _ hF3 hK3; clear hF3 hK3
          refine hK _ _ ?_; clear hK K
          refine wpAny_ready (rs := [8]) (by kernel_rfl) (by simp) ?_
          refine AllReady.cons rfl (fun K hK => ?_) ?_
          · go_simp
            refine hK _ _ ?_; clear hK K
            refine wpAny_ready (rs := [11]) (by kernel_rfl) (by simp) ?_
            refine AllReady.cons rfl (fun K hK => ?_) ?_
            · go_simp; refine (H2.out).mono ?_; rintro e w4 ⟨rfl, hF4, hK4⟩; have HY := Lib.hid (And.intro hF4 hK4); clear hF4 hK4
              refine hK _ _ ?_; clear hK K
              refine wpAny_take (i := 12) (v := ?_) rfl (by kernel_rfl) (by kernel_rfl) (by kernel_rfl) (fun _ _ _ h => h) (Or.inl ⟨by rfl, ?_⟩) ?_
              rotate_left 1
              · intro w; go_simp; try with_reducible rfl
              refine wpAny_take (i := 13) (v := ?_) rfl (by kernel_rfl) (by kernel_rfl) (by kernel_rfl) (fun _ _ _ h => h) (Or.inl ⟨by rfl, ?_⟩) ?_
              rotate_left 1
              · intro w; go_simp; try with_reducible rfl
              refine wpAny_done (by kernel_rfl) ?_ _
              clear d0 d1 d2 d3 d4 d5 d6 d7 d8 H2
              go_wp2_with fail
              go_ret
              exact ⟨rfl, act_out HY.out.1 (fun x hx => List.mem_cons_of_mem _ hx) HF.out.2 HF.out.1 HE.out.1 HE.out.2 HY.out.2⟩
            exact AllReady.nil
          exact AllReady.nil
        refine AllReady.cons rfl (fun K hK => ?_) ?_
        · go_simp
          refine hK _ _ ?_; clear hK K
          refine wpAny_ready (rs := [5]) (by kernel_rfl) (by simp) ?_
          refine AllReady.cons rfl (fun K hK => ?_) ?_
          · go_simp; refine (H1.out).mono ?_; rintro e w3 ⟨rfl, hF3, hK3⟩; obtain ⟨d0, d1, d2, d3, d4, d5, d6, d7, d8, H2, HE⟩ := NX.out w3 _ hF3 hK3; clear hF3 hK3
            refine hK _ _ ?_; clear hK K
            refine wpAny_ready (rs := [11]) (by kernel_rfl) (by simp) ?_
            refine AllReady.cons rfl (fun K hK => ?_) ?_
            · go_simp; refine (H2.out).mono ?_; rintro e w4 ⟨rfl, hF4, hK4⟩; have HY := Lib.hid (And.intro hF4 hK4); clear hF4 hK4
              refine hK _ _ ?_; clear hK K
              refine wpAny_take (i := 12) (v := ?_) rfl (by kernel_rfl) (by kernel_rfl) (by kernel_rfl) (fun _ _ _ h => h) (Or.inl ⟨by rfl, ?_⟩) ?_
              rotate_left 1
              · intro w; go_simp; try with_reducible rfl
              refine wpAny_take (i := 13) (v := ?_) rfl (by kernel_rfl) (by kernel_rfl) (by kernel_rfl) (fun _ _ _ h => h) (Or.inl ⟨by rfl, ?_⟩) ?_
              rotate_left 1
              · intro w; go_simp; try with_reducible rfl
              refine wpAny_done (by kernel_rfl) ?_ _
              clear d0 d1 d2 d3 d4 d5 d6 d7 d8 H2
              go_wp2_with fail
              go_ret
              exact ⟨rfl, act_out HY.out.1 (fun x hx => List.mem_cons_of_mem _ hx) HF.out.2 HF.out.1 HE.out.1 HE.out.2 HY.out.2⟩
            exact AllReady.nil
          exact AllReady.nil
        exact AllReady.nil
      refine AllReady.cons rfl (fun K hK => ?_) ?_
      · go_simp
        refine hK _ _ ?_; clear hK K
        refine wpAny_ready (rs := [2]) (by kernel_rfl) (by simp) ?_
        refine AllReady.cons rfl (fun K hK => ?_) ?_
        · go_simp
          refine hK _ _ ?_; clear hK K
          refine wpAny_ready (rs := [5]) (by kernel_rfl) (by simp) ?_
          refine AllReady.cons rfl (fun K hK => ?_) ?_
          · go_simp; refine (H1.out).mono ?_; rintro e w3 ⟨rfl, hF3, hK3⟩; obtain ⟨d0, d1, d2, d3, d4, d5, d6, d7, d8, H2, HE⟩ := NX.out w3 _ hF3 hK3; clear hF3 hK3
            refine hK _ _ ?_; clear hK K
            refine wpAny_ready (rs := [11]) (by kernel_rfl) (by simp) ?_
            refine AllReady.cons rfl (fun K hK => ?_) ?_
            · go_simp; refine (H2.out).mono ?_; rintro e w4 ⟨rfl, hF4, hK4⟩; have HY := Lib.hid (And.intro hF4 hK4); clear hF4 hK4
              refine hK _ _ ?_; clear hK K
              refine wpAny_take (i := 12) (v := ?_) rfl (by kernel_rfl) (by kernel_rfl) (by kernel_rfl) (fun _ _ _ h => h) (Or.inl ⟨by rfl, ?_⟩) ?_
              rotate_left 1
              · intro w; go_simp; try with_reducible rfl
              refine wpAny_take (i := 13) (v := ?_) rfl (by kernel_rfl) (by kernel_rfl) (by kernel_rfl) (fun _ _ _ h => h) (Or.inl ⟨by rfl, ?_⟩) ?_
              rotate_left 1
              · intro w; go_simp; try with_reducible rfl
              refine wpAny_done (by kernel_rfl) ?_ _
              clear d0 d1 d2 d3 d4 d5 d6 d7 d8 H2
              go_wp2_with fail
              go_ret
              exact ⟨rfl, act_out HY.out.1 (fun x hx => List.mem_cons_of_mem _ hx) HF.out.2 HF.out.1 HE.out.1 HE.out.2 HY.out.2⟩
            exact AllReady.nil
          exact AllReady.nil
        exact AllReady.nil
      exact AllReady.nil
    refine AllReady.cons rfl (fun K hK => ?_) ?_
    · go_simp
      refine hK _ _ ?_; clear hK K
      refine wpAny_ready (rs := [2, 4]) (by kernel_rfl) (by simp) ?_
      refine AllReady.cons rfl (fun K hK => ?_) ?_
      · go_simp
        refine hK _ _ ?_; clear hK K
        refine wpAny_ready (rs := [4]) (by kernel_rfl) (by simp) ?_
        refine AllReady.cons rfl (fun K hK => ?_) ?_
        · go_simp
          refine hK _ _ ?_; clear hK K
          refine wpAny_ready (rs := [5]) (by kernel_rfl) (by simp) ?_
          refine AllReady.cons rfl (fun K hK => ?_) ?_
          · go_simp; refine (H1.out).mono ?_; rintro e w3 ⟨rfl, hF3, hK3⟩; obtain ⟨d0, d1, d2, d3, d4, d5, d6, d7, d8, H2, HE⟩ := NX.out w3 _ hF3 hK3; clear hF3 hK3
            refine hK _ _ ?_; clear hK K
            refine wpAny_ready (rs := [11]) (by kernel_rfl) (by simp) ?_
            refine AllReady.cons rfl (fun K hK => ?_) ?_
            · go_simp; refine (H2.out).mono ?_; rintro e w4 ⟨rfl, hF4, hK4⟩; have HY := Lib.hid (And.intro hF4 hK4); clear hF4 hK4
              refine hK _ _ ?_; clear hK K
              refine wpAny_take (i := 12) (v := ?_) rfl (by kernel_rfl) (by kernel_rfl) (by kernel_rfl) (fun _ _ _ h => h) (Or.inl ⟨by rfl, ?_⟩) ?_
              rotate_left 1
              · intro w; go_simp; try with_reducible rfl
              refine wpAny_take (i := 13) (v := ?_) rfl (by kernel_rfl) (by kernel_rfl) (by kernel_rfl) (fun _ _ _ h => h) (Or.inl ⟨by rfl, ?_⟩) ?_
              rotate_left 1
              · intro w; go_simp; try with_reducible rfl
              refine wpAny_done (by kernel_rfl) ?_ _
              clear d0 d1 d2 d3 d4 d5 d6 d7 d8 H2
              go_wp2_with fail
              go_ret
              exact ⟨rfl, act_out HY.out.1 (fun x hx => List.mem_cons_of_mem _ hx) HF.out.2 HF.out.1 HE.out.1 HE.out.2 HY.out.2⟩
            exact AllReady.nil
          exact AllReady.nil
        exact AllReady.nil
      refine AllReady.cons rfl (fun K hK => ?_) ?_
      · go_simp
        refine hK _ _ ?_; clear hK K
        refine wpAny_ready (rs := [2]) (by kernel_rfl) (by simp) ?_
        refine AllReady.cons rfl (fun K hK => ?_) ?_
        · go_simp
          refine hK _ _ ?_; clear hK K
          refine wpAny_ready (rs := [5]) (by kernel_rfl) (by simp) ?_
          refine AllReady.cons rfl (fun K hK => ?_) ?_
          · go_simp; refine (H1.out).mono ?_; rintro e w3 ⟨rfl, hF3, hK3⟩; obtain ⟨d0, d1, d2, d3, d4, d5, d6, d7, d8, H2, HE⟩ := NX.out w3 _ hF3 hK3; clear hF3 hK3
            refine hK _ _ ?_; clear hK K
            refine wpAny_ready (rs := [11]) (by kernel_rfl) (by simp) ?_
            refine AllReady.cons rfl (fun K hK => ?_) ?_
            · go_simp; refine (H2.out).mono ?_; rintro e w4 ⟨rfl, hF4, hK4⟩; have HY := Lib.hid (And.intro hF4 hK4); clear hF4 hK4
              refine hK _ _ ?_; clear hK K
              refine wpAny_take (i := 12) (v := ?_) rfl (by kernel_rfl) (by kernel_rfl) (by kernel_rfl) (fun _ _ _ h => h) (Or.inl ⟨by rfl, ?_⟩) ?_
              rotate_left 1
              · intro w; go_simp; try with_reducible rfl
              refine wpAny_take (i := 13) (v := ?_) rfl (by kernel_rfl) (by kernel_rfl) (by kernel_rfl) (fun _ _ _ h => h) (Or.inl ⟨by rfl, ?_⟩) ?_
              rotate_left 1
              · intro w; go_simp; try with_reducible rfl
              refine wpAny_done (by kernel_rfl) ?_ _
              clear d0 d1 d2 d3 d4 d5 d6 d7 d8 H2
              go_wp2_with fail
              go_ret
              exact ⟨rfl, act_out HY.out.1 (fun x hx => List.mem_cons_of_mem _ hx) HF.out.2 HF.out.1 HE.out.1 HE.out.2 HY.out.2⟩
            exact AllReady.nil
          exact AllReady.nil
        exact AllReady.nil
      exact AllReady.nil
    exact AllReady.nil
  exact AllReady.nil
end Go.Proofs.Ytacmidlhfcnkiaa
