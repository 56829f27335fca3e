/- Layer 14: the document's Top. Condition: the block is frames (Fr). -/
import Derived.Test.YtacmidlhfcnkiaaGN
namespace Go.Proofs.Ytacmidlhfcnkiaa
open Go.RowKit
set_option linter.unusedVariables false

set_option maxHeartbeats 2000000 in
theorem rtop_nil {w : World} {p : Nat} {T : List Nat} (h : Fr TR w p T []) : Calls Try.prog 16 #[Pt p] w fun e w' => e = .returned (.tuple #[.agg zC, .bool false]) ∧ Mod [] w w' := by
  have mA := al_mod w (.cells zC TF)
  have hb := box_of (Mod.refl [] (w.alloc (.cells zC TF)))
  obtain ⟨d0, d1, d2, d3, d4, d5, g0, g1, g2, g3, g4, g5⟩ := six_at hb
  obtain ⟨v, O, hv, hO, rfl, _⟩ := h.far mA
  obtain rfl : O = [] := by simpa using hO.symm
  obtain ⟨A0, cap0, rfl, _⟩ := hv.slice
  have c0 := hv.c0
  have HB := Lib.hid (And.intro hb mA)
  clear mA hb h hv hO
  go_enter Try.func16, Try.ntmps16
  go_wp2_with fail
  exact bodyPost_ret (res_fr2 Try.results16 rfl HB.out.1) rfl ⟨rfl, HB.out.2⟩
set_option maxHeartbeats 4000000 in
theorem rtop_snoc {w : World} {p : Nat} {T : List Nat} {L : List Fm} {q : Fm} (h : Fr TR w p T (L ++ [q])) : Calls Try.prog 16 #[Pt p] w (Tops w q (.bool true)) := by
  have hq : q.l.length ≤ 1000 := h.small q (by simp)
  obtain ⟨W1, hW1⟩ : ∃ W1, W1 = w.alloc (.cells zC TF) := ⟨_, rfl⟩
  have mA := al_mod w (.cells zC TF)
  rw [← hW1] at mA
  have mD := mA.drew
  have hb : ∀ W, Mod [] W1.drew W → W.heap[w.heap.size]? = some (.cells zC TF (0, 0)) := fun W m => box_of (by rw [← hW1]; exact ((Mod.refl [] W1).drew).trans m)
  obtain ⟨n, hn⟩ : ∃ n : Nat, (L ++ [q]).length = n := ⟨_, rfl⟩
  have hA := h.far mD
  obtain ⟨v, O, hv, hO, rfl, _⟩ := hA
  obtain ⟨A, r, rfl⟩ := snoc_map (O := O) (by rintro rfl; simp at hO)
  have hr : L = A.map Prod.fst ∧ q = r.1 := by simpa using hO
  obtain ⟨rfl, rfl⟩ := hr
  obtain ⟨g, cap, rfl, hgp, hc, hfz, hle, hcap⟩ := hv.at_
  have hlen : (A ++ [r]).length = n := by simpa using hn
  rw [hlen] at hv hle
  obtain ⟨m, hm⟩ : ∃ m, m = A.length := ⟨_, rfl⟩
  rw [← hm] at hc
  have hnm : n = m + 1 := by rw [← hlen, hm]; simp
  obtain ⟨⟨k, a, b, x, y, l⟩, s⟩ := r
  have HS := Lib.hid ((hv.loc (⟨k, a, b, x, y, l⟩, s) (by simp)).ls)
  have H2 := Lib.hid (rcopied_calls HS.out (by dsimp only at hq ⊢; omega))
  obtain ⟨A', c', hs', _⟩ := HS.out
  obtain ⟨ln, hln⟩ : ∃ ln, ln = l.length := ⟨_, rfl⟩
  dsimp only at hs'
  rw [← hln] at hs'
  subst hs'
  have hpl : p < w.heap.size := h.lt p (mem_Sf.2 (Or.inl rfl))
  have hgl : g < w.heap.size := h.lt g (mem_Sf.2 (Or.inr (Or.inl rfl)))
  have c0 := hv.c0
  have r0 : W1.drew.cell? ⟨g, m * 6, none⟩ = some (.int .i64 k) := hc 0 (by omega)
  have r1 : W1.drew.cell? ⟨g, m * 6 + 1, none⟩ = some (.int .i64 a) := hc 1 (by omega)
  have r2 : W1.drew.cell? ⟨g, m * 6 + 2, none⟩ = some (.int .i64 b) := hc 2 (by omega)
  have r3 : W1.drew.cell? ⟨g, m * 6 + 3, none⟩ = some (.int .i64 x) := hc 3 (by omega)
  have r4 : W1.drew.cell? ⟨g, m * 6 + 4, none⟩ = some (.int .i64 y) := hc 4 (by omega)
  have r5 : W1.drew.cell? ⟨g, m * 6 + 5, none⟩ = some (.slice A' ln c') := hc 5 (by omega)
  have hn1 : (n : Int) - 1 = (m : Int) := by omega
  have hw1 : IntKind.i64.wrap ((n : Int) - 1) = (m : Int) := by rw [IntKind.wrap_i64]; omega
  have hw2 : IntKind.i64.wrap (m : Int) = (m : Int) := by rw [IntKind.wrap_i64]; omega
  have hm0 : (0 : Int) ≤ (m : Int) := by omega
  have hn0 : ¬ (n : Int) = 0 := by omega
  have hn0' : ¬ n = 0 := by omega
  have hmn : (m : Int) < (n : Int) := by omega
  have hmn' : m < n := by omega
  have KP := Lib.hid (fun (W : World) (hm : Mod [] W1.drew W) => hm.cell (x := ⟨p, 0, none⟩) (by simp) c0)
  have HB := Lib.hid hb
  have HZ := Lib.hid (show w.heap.size < W1.drew.heap.size by rw [hW1]; show w.heap.size < (w.alloc _).heap.size; rw [size_allocI]; omega)
  have HM := Lib.hid mD
  have HW := Lib.hid hW1
  unfold Tops frV
  unfold frV at H2
  dsimp only at H2 ⊢
  clear h hn hv hc hlen hO hm hb mD mA hq hle hln hfz HS hnm hW1 hpl hgl
  have c0' : (w.alloc (.cells #[.int .i64 0, .int .i64 0, .int .i64 0, .int .i64 0, .int .i64 0, .slice none 0 0] TF)).cell? ⟨p, 0, none⟩ = some (.slice (some ⟨g, 0, none⟩) n cap) := by have := HW.out; dsimp only [zC] at this; rw [← this]; exact c0
  go_enter Try.func16, Try.ntmps16
  go_upto_region 3 with fail
  have hW1 := HW.out
  dsimp only [zC] at hW1
  rw [← hW1]
  clear hW1 HW c0'
  -- WALK
  refine wp_region_any (by kernel_rfl) ?_
  try (change wpAny _ _ _ _ _ _ _ (World.drew _))
  refine wpAny_take (i := 0) (v := ?_) rfl (by kernel_rfl) (by kernel_rfl) (by kernel_rfl) (fun _ _ _ h => h) (Or.inl ⟨by rfl, ?_⟩) ?_
  rotate_left 1
  · intro w; go_simp; try with_reducible rfl
  refine wpAny_take (i := 1) (v := ?_) rfl (by kernel_rfl) (by kernel_rfl) (by kernel_rfl) (fun _ _ _ h => h) (Or.inl ⟨by rfl, ?_⟩) ?_
  rotate_left 1
  · intro w; go_simp; try with_reducible rfl
  refine wpAny_take (i := 2) (v := ?_) rfl (by kernel_rfl) (by kernel_rfl) (by kernel_rfl) (fun _ _ _ h => h) (Or.inl ⟨by rfl, ?_⟩) ?_
  rotate_left 1
  · intro w; go_simp; try with_reducible rfl
  refine wpAny_take (i := 4) (v := ?_) rfl (by kernel_rfl) (by kernel_rfl) (by kernel_rfl) (fun _ _ _ h => h) (Or.inl ⟨by rfl, ?_⟩) ?_
  rotate_left 1
  · intro w; go_simp; try with_reducible rfl
  refine wpAny_take (i := 5) (v := ?_) rfl (by kernel_rfl) (by kernel_rfl) (by kernel_rfl) (fun _ _ _ h => h) (Or.inl ⟨by rfl, ?_⟩) ?_
  rotate_left 1
  · intro w; go_simp; try with_reducible rfl
  refine wpAny_take (i := 6) (v := ?_) rfl (by kernel_rfl) (by kernel_rfl) (by kernel_rfl) (fun _ _ _ h => h) (Or.inl ⟨by rfl, ?_⟩) ?_
  rotate_left 1
  · intro w; go_simp; try with_reducible rfl
  refine wpAny_ready (rs := [3, 7]) (by kernel_rfl) (by simp) ?_
  refine AllReady.cons rfl (fun K hK => ?_) ?_
  · go_simp
    refine hK _ _ ?_; clear hK K
    refine wpAny_ready (rs := [7]) (by kernel_rfl) (by simp) ?_
    refine AllReady.cons rfl (fun K hK => ?_) ?_
    · go_simp
      refine hK _ _ ?_; clear hK K
      refine wpAny_ready (rs := [8]) (by kernel_rfl) (by simp) ?_
      refine AllReady.cons rfl (fun K hK => ?_) ?_
      · go_simp
        refine hK _ _ ?_; clear hK K
        refine wpAny_take (i := 9) (v := ?_) rfl (by kernel_rfl) (by kernel_rfl) (by kernel_rfl) (fun _ _ _ h => h) (Or.inl ⟨by rfl, ?_⟩) ?_
        rotate_left 1
        · intro w; go_simp; try with_reducible rfl
        refine wpAny_take (i := 10) (v := ?_) rfl (by kernel_rfl) (by kernel_rfl) (by kernel_rfl) (fun _ _ _ h => h) (Or.inl ⟨by rfl, ?_⟩) ?_
        rotate_left 1
        · intro w; go_simp; try with_reducible rfl
        refine wpAny_ready (rs := [11]) (by kernel_rfl) (by simp) ?_
        refine AllReady.cons rfl (fun K hK => ?_) ?_
        · go_simp
          refine hK _ _ ?_; clear hK K
          refine wpAny_ready (rs := [12]) (by kernel_rfl) (by simp) ?_
          refine AllReady.cons rfl (fun K hK => ?_) ?_
          · go_simp; refine (H2.out).mono ?_; rintro e w9 ⟨s', rfl, hn, hm9⟩; obtain ⟨A9, c9, rfl, _⟩ := hn.1.ls; have e9 := HB.out w9 hm9; obtain ⟨d0, d1, d2, d3, d4, d5, g0, g1, g2, g3, g4, g5⟩ := six_at e9; have E9 := Lib.hid (And.intro e9 (And.intro hn hm9)); clear hn e9 hm9
            refine hK _ _ ?_; clear hK K
            refine wpAny_ready (rs := [13]) (by kernel_rfl) (by simp) ?_
            refine AllReady.cons rfl (fun K hK => ?_) ?_
            · go_simp
              refine hK _ _ ?_; clear hK K
              refine wpAny_take (i := 14) (v := ?_) rfl (by kernel_rfl) (by kernel_rfl) (by kernel_rfl) (fun _ _ _ h => h) (Or.inl ⟨by rfl, ?_⟩) ?_
              rotate_left 1
              · intro w; go_simp; try with_reducible rfl
              refine wpAny_done (by kernel_rfl) ?_ _
              go_wp2_with fail
              obtain ⟨k1, k2, k3⟩ := box_ret E9.out.1 (Nat.le_refl _) (HM.out.trans E9.out.2.2) (q := ⟨k, a, b, x, y, l⟩) ⟨E9.out.2.1.1, fun g hg => Nat.le_trans HM.out.size (E9.out.2.1.2 g hg)⟩ (fun hx => by have h1 := E9.out.2.1.2 _ hx; have h2 := HZ.out; omega)
              exact bodyPost_ret (res_fr2 Try.results16 rfl k1) rfl ⟨_, rfl, k2, k3⟩
            exact AllReady.nil
          exact AllReady.nil
        exact AllReady.nil
      exact AllReady.nil
    exact AllReady.nil
  refine AllReady.cons rfl (fun K hK => ?_) ?_
  · go_simp
    refine hK _ _ ?_; clear hK K
    refine wpAny_ready (rs := [3, 8]) (by kernel_rfl) (by simp) ?_
    refine AllReady.cons rfl (fun K hK => ?_) ?_
    · go_simp
      refine hK _ _ ?_; clear hK K
      refine wpAny_ready (rs := [8]) (by kernel_rfl) (by simp) ?_
      refine AllReady.cons rfl (fun K hK => ?_) ?_
      · go_simp
        refine hK _ _ ?_; clear hK K
        refine wpAny_take (i := 9) (v := ?_) rfl (by kernel_rfl) (by kernel_rfl) (by kernel_rfl) (fun _ _ _ h => h) (Or.inl ⟨by rfl, ?_⟩) ?_
        rotate_left 1
        · intro w; go_simp; try with_reducible rfl
        refine wpAny_take (i := 10) (v := ?_) rfl (by kernel_rfl) (by kernel_rfl) (by kernel_rfl) (fun _ _ _ h => h) (Or.inl ⟨by rfl, ?_⟩) ?_
        rotate_left 1
        · intro w; go_simp; try with_reducible rfl
        refine wpAny_ready (rs := [11]) (by kernel_rfl) (by simp) ?_
        refine AllReady.cons rfl (fun K hK => ?_) ?_
        · go_simp
          refine hK _ _ ?_; clear hK K
          refine wpAny_ready (rs := [12]) (by kernel_rfl) (by simp) ?_
          refine AllReady.cons rfl (fun K hK => ?_) ?_
          · go_simp; refine (H2.out).mono ?_; rintro e w9 ⟨s', rfl, hn, hm9⟩; obtain ⟨A9, c9, rfl, _⟩ := hn.1.ls; have e9 := HB.out w9 hm9; obtain ⟨d0, d1, d2, d3, d4, d5, g0, g1, g2, g3, g4, g5⟩ := six_at e9; have E9 := Lib.hid (And.intro e9 (And.intro hn hm9)); clear hn e9 hm9
            refine hK _ _ ?_; clear hK K
            refine wpAny_ready (rs := [13]) (by kernel_rfl) (by simp) ?_
            refine AllReady.cons rfl (fun K hK => ?_) ?_
            · go_simp
              refine hK _ _ ?_; clear hK K
              refine wpAny_take (i := 14) (v := ?_) rfl (by kernel_rfl) (by kernel_rfl) (by kernel_rfl) (fun _ _ _ h => h) (Or.inl ⟨by rfl, ?_⟩) ?_
              rotate_left 1
              · intro w; go_simp; try with_reducible rfl
              refine wpAny_done (by kernel_rfl) ?_ _
              go_wp2_with fail
              obtain ⟨k1, k2, k3⟩ := box_ret E9.out.1 (Nat.le_refl _) (HM.out.trans E9.out.2.2) (q := ⟨k, a, b, x, y, l⟩) ⟨E9.out.2.1.1, fun g hg => Nat.le_trans HM.out.size (E9.out.2.1.2 g hg)⟩ (fun hx => by have h1 := E9.out.2.1.2 _ hx; have h2 := HZ.out; omega)
              exact bodyPost_ret (res_fr2 Try.results16 rfl k1) rfl ⟨_, rfl, k2, k3⟩
            exact AllReady.nil
          exact AllReady.nil
        exact AllReady.nil
      exact AllReady.nil
    refine AllReady.cons rfl (fun K hK => ?_) ?_
    · go_simp
      refine hK _ _ ?_; clear hK K
      refine wpAny_take (i := 9) (v := ?_) rfl (by kernel_rfl) (by kernel_rfl) (by kernel_rfl) (fun _ _ _ h => h) (Or.inl ⟨by rfl, ?_⟩) ?_
      rotate_left 1
      · intro w; go_simp; try with_reducible rfl
      refine wpAny_ready (rs := [3]) (by kernel_rfl) (by simp) ?_
      refine AllReady.cons rfl (fun K hK => ?_) ?_
      · go_simp
        refine hK _ _ ?_; clear hK K
        refine wpAny_take (i := 10) (v := ?_) rfl (by kernel_rfl) (by kernel_rfl) (by kernel_rfl) (fun _ _ _ h => h) (Or.inl ⟨by rfl, ?_⟩) ?_
        rotate_left 1
        · intro w; go_simp; try with_reducible rfl
        refine wpAny_ready (rs := [11]) (by kernel_rfl) (by simp) ?_
        refine AllReady.cons rfl (fun K hK => ?_) ?_
        · go_simp
          refine hK _ _ ?_; clear hK K
          refine wpAny_ready (rs := [12]) (by kernel_rfl) (by simp) ?_
          refine AllReady.cons rfl (fun K hK => ?_) ?_
          · go_simp; refine (H2.out).mono ?_; rintro e w9 ⟨s', rfl, hn, hm9⟩; obtain ⟨A9, c9, rfl, _⟩ := hn.1.ls; have e9 := HB.out w9 hm9; obtain ⟨d0, d1, d2, d3, d4, d5, g0, g1, g2, g3, g4, g5⟩ := six_at e9; have E9 := Lib.hid (And.intro e9 (And.intro hn hm9)); clear hn e9 hm9
            refine hK _ _ ?_; clear hK K
            refine wpAny_ready (rs := [13]) (by kernel_rfl) (by simp) ?_
            refine AllReady.cons rfl (fun K hK => ?_) ?_
            · go_simp
              refine hK _ _ ?_; clear hK K
              refine wpAny_take (i := 14) (v := ?_) rfl (by kernel_rfl) (by kernel_rfl) (by kernel_rfl) (fun _ _ _ h => h) (Or.inl ⟨by rfl, ?_⟩) ?_
              rotate_left 1
              · intro w; go_simp; try with_reducible rfl
              refine wpAny_done (by kernel_rfl) ?_ _
              go_wp2_with fail
              obtain ⟨k1, k2, k3⟩ := box_ret E9.out.1 (Nat.le_refl _) (HM.out.trans E9.out.2.2) (q := ⟨k, a, b, x, y, l⟩) ⟨E9.out.2.1.1, fun g hg => Nat.le_trans HM.out.size (E9.out.2.1.2 g hg)⟩ (fun hx => by have h1 := E9.out.2.1.2 _ hx; have h2 := HZ.out; omega)
              exact bodyPost_ret (res_fr2 Try.results16 rfl k1) rfl ⟨_, rfl, k2, k3⟩
            exact AllReady.nil
          exact AllReady.nil
        exact AllReady.nil
      exact AllReady.nil
    exact AllReady.nil
  exact AllReady.nil
  -- END
end Go.Proofs.Ytacmidlhfcnkiaa
