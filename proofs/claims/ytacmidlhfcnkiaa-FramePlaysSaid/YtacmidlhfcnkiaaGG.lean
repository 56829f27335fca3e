/- Layer 14 (package frame): Top. Condition: the block is frames (Fr). -/
import Derived.Test.YtacmidlhfcnkiaaGF
namespace Go.Proofs.Ytacmidlhfcnkiaa
open Go.RowKit
set_option linter.unusedVariables false

def topV (L : List Fm) : Fm := L.getLast?.getD zF
theorem topV_snoc (A : List Fm) (q : Fm) : topV (A ++ [q]) = q := by simp [topV]
theorem snoc_map {O : List (Fm × Value)} (h : O ≠ []) : ∃ A q, O = A ++ [q] := by
  rcases List.eq_nil_or_concat O with e | ⟨A, q, e⟩
  · exact absurd e h
  · exact ⟨A, q, by simpa using e⟩
/-- What Top tells. -/
def Tops (w : World) (q : Fm) (b : Value) (e : Ending) (w' : World) : Prop := ∃ s', e = .returned (.tuple #[frV q s', b]) ∧ New w w' s' q.l ∧ Mod [] w w'
theorem box_of {w w' : World} {c : Array Value} {t : TypeId} (m : Mod [] (w.alloc (.cells c t)) w') : w'.heap[w.heap.size]? = some (.cells c t (0, 0)) :=
  (m.block _ (by rw [size_allocI]; omega) (by simp)).trans (MapKept.heap_alloc w (.cells c t)).1
/-- Six stores into a box: the result's cells. -/
theorem box_ret {w w' : World} {b : Nat} (h : w'.heap[b]? = some (.cells zC TF (0, 0))) (hb : w.heap.size ≤ b) (m : Mod [] w w') {q : Fm} {s : Value} (hs : New w w' s q.l) (hn : s.ownBlock ≠ some b) :
    (sixSet w' b (.int .i64 q.k) (.int .i64 q.a) (.int .i64 q.b) (.int .i64 q.x) (.int .i64 q.y) s).heap[b]? = some (.cells (cellsF q s) TF (0, 0)) ∧ New w (sixSet w' b (.int .i64 q.k) (.int .i64 q.a) (.int .i64 q.b) (.int .i64 q.x) (.int .i64 q.y) s) s q.l ∧ Mod [] w (sixSet w' b (.int .i64 q.k) (.int .i64 q.a) (.int .i64 q.b) (.int .i64 q.x) (.int .i64 q.y) s) := by
  obtain ⟨h1, h2⟩ := six_set (v0 := .int .i64 q.k) (v1 := .int .i64 q.a) (v2 := .int .i64 q.b) (v3 := .int .i64 q.x) (v4 := .int .i64 q.y) (v5 := s) h
  exact ⟨h1, ⟨hs.1.mod h2 fun g hg hx => hn (by rw [hg]; simpa using hx), hs.2⟩, m.far1 h2 hb⟩
set_option maxHeartbeats 2000000 in
theorem top_none (w : World) : Calls Try.prog 15 #[.pointer none] w fun e w' => e = .returned (.tuple #[.agg zC, .bool false]) ∧ Mod [] w w' := by
  have mA := al_mod w (.cells zC TF)
  have hb := box_of (Mod.refl [] (w.alloc (.cells zC TF)))
  obtain ⟨d0, d1, d2, d3, d4, d5, g0, g1, g2, g3, g4, g5⟩ := six_at hb
  have H1 := Lib.hid (depth_none (w.alloc (.cells zC TF)))
  have HB := Lib.hid (And.intro hb mA)
  clear mA hb
  go_enter Try.func15, Try.ntmps15
  go_wp2_with fail
  refine (H1.out).mono ?_
  rintro e w' ⟨rfl, rfl⟩
  go_wp2_with fail
  exact bodyPost_ret (res_fr2 Try.results15 rfl HB.out.1) rfl ⟨rfl, HB.out.2⟩
set_option maxHeartbeats 2000000 in
theorem top_nil {w : World} {p : Nat} {T : List Nat} (h : Fr TP w p T []) : Calls Try.prog 15 #[Pt p] w fun e w' => e = .returned (.tuple #[.agg zC, .bool false]) ∧ Mod [] w w' := by
  have mA := al_mod w (.cells zC TF)
  have hb := box_of (Mod.refl [] (w.alloc (.cells zC TF)))
  obtain ⟨d0, d1, d2, d3, d4, d5, g0, g1, g2, g3, g4, g5⟩ := six_at hb
  have H1 := Lib.hid (depth_calls (h.far mA) 0 rfl)
  have HB := Lib.hid (And.intro hb mA)
  clear mA hb h
  go_enter Try.func15, Try.ntmps15
  go_wp2_with fail
  refine (H1.out).mono ?_
  rintro e w' ⟨rfl, rfl⟩
  go_wp2_with fail
  exact bodyPost_ret (res_fr2 Try.results15 rfl HB.out.1) rfl ⟨rfl, HB.out.2⟩
set_option maxHeartbeats 4000000 in
theorem top_snoc {w : World} {p : Nat} {T : List Nat} {L : List Fm} {q : Fm} (h : Fr TP w p T (L ++ [q])) : Calls Try.prog 15 #[Pt p] w (Tops w q (.bool true)) := by
  have hq : q.l.length ≤ 1000 := h.small q (by simp)
  obtain ⟨W1, hW1⟩ : ∃ W1, W1 = w.alloc (.cells zC TF) := ⟨_, rfl⟩
  have mA := al_mod w (.cells zC TF)
  rw [← hW1] at mA
  have mD := mA.drew
  have hb : ∀ W, Mod [] W1.drew W → W.heap[w.heap.size]? = some (.cells zC TF (0, 0)) := fun W m => box_of (by rw [← hW1]; exact ((Mod.refl [] W1).drew).trans m)
  obtain ⟨n, hn⟩ : ∃ n : Nat, (L ++ [q]).length = n := ⟨_, rfl⟩
  have H1 := Lib.hid (depth_calls (h.far mA) n hn)
  have hA := h.far mD
  obtain ⟨v, O, hv, hO, rfl, _⟩ := hA
  obtain ⟨A, r, rfl⟩ := snoc_map (O := O) (by rintro rfl; simp at hO)
  have hr : L = A.map Prod.fst ∧ q = r.1 := by simpa using hO
  obtain ⟨rfl, rfl⟩ := hr
  obtain ⟨g, cap, rfl, hgp, hc, hfz, hle, hcap⟩ := hv.at_
  have hlen : (A ++ [r]).length = n := by simpa using hn
  rw [hlen] at hv hle
  obtain ⟨m, hm⟩ : ∃ m, m = A.length := ⟨_, rfl⟩
  rw [← hm] at hc
  have hnm : n = m + 1 := by rw [← hlen, hm]; simp
  obtain ⟨⟨k, a, b, x, y, l⟩, s⟩ := r
  have HS := Lib.hid ((hv.loc (⟨k, a, b, x, y, l⟩, s) (by simp)).ls)
  have H2 := Lib.hid (copied_calls HS.out (by dsimp only at hq ⊢; omega))
  obtain ⟨A', c', hs', _⟩ := HS.out
  obtain ⟨ln, hln⟩ : ∃ ln, ln = l.length := ⟨_, rfl⟩
  dsimp only at hs'
  rw [← hln] at hs'
  subst hs'
  have hpl : p < w.heap.size := h.lt p (mem_Sf.2 (Or.inl rfl))
  have hgl : g < w.heap.size := h.lt g (mem_Sf.2 (Or.inr (Or.inl rfl)))
  have c0 := hv.c0
  have r0 : W1.drew.cell? ⟨g, m * 6, none⟩ = some (.int .i64 k) := hc 0 (by omega)
  have r1 : W1.drew.cell? ⟨g, m * 6 + 1, none⟩ = some (.int .i64 a) := hc 1 (by omega)
  have r2 : W1.drew.cell? ⟨g, m * 6 + 2, none⟩ = some (.int .i64 b) := hc 2 (by omega)
  have r3 : W1.drew.cell? ⟨g, m * 6 + 3, none⟩ = some (.int .i64 x) := hc 3 (by omega)
  have r4 : W1.drew.cell? ⟨g, m * 6 + 4, none⟩ = some (.int .i64 y) := hc 4 (by omega)
  have r5 : W1.drew.cell? ⟨g, m * 6 + 5, none⟩ = some (.slice A' ln c') := hc 5 (by omega)
  have hn1 : (n : Int) - 1 = (m : Int) := by omega
  have hw1 : IntKind.i64.wrap ((n : Int) - 1) = (m : Int) := by rw [IntKind.wrap_i64]; omega
  have hw2 : IntKind.i64.wrap (m : Int) = (m : Int) := by rw [IntKind.wrap_i64]; omega
  have hm0 : (0 : Int) ≤ (m : Int) := by omega
  have hn0 : ¬ (n : Int) = 0 := by omega
  have hn0' : ¬ n = 0 := by omega
  have hmn : (m : Int) < (n : Int) := by omega
  have hmn' : m < n := by omega
  have KP := Lib.hid (fun (W : World) (hm : Mod [] W1.drew W) => hm.cell (x := ⟨p, 0, none⟩) (by simp) c0)
  have HB := Lib.hid hb
  have HZ := Lib.hid (show w.heap.size < W1.drew.heap.size by rw [hW1]; show w.heap.size < (w.alloc _).heap.size; rw [size_allocI]; omega)
  have HM := Lib.hid mD
  have HW := Lib.hid hW1
  unfold Tops frV
  unfold frV at H2
  dsimp only at H2 ⊢
  clear h hn hv hc hlen hO hm hb mD mA hq hle hln hfz HS hnm hW1 hpl hgl
  go_enter Try.func15, Try.ntmps15
  go_wp2_with fail
  have hW1 := HW.out
  dsimp only [zC] at hW1
  rw [← hW1]
  clear hW1 HW
  refine (H1.out).mono ?_
  rintro e w' ⟨rfl, rfl⟩
  go_upto_region 3 with fail
  -- WALK
  refine wp_region_any (by kernel_rfl) ?_
  try (change wpAny _ _ _ _ _ _ _ (World.drew _))
  refine wpAny_take (i := 0) (v := ?_) rfl (by kernel_rfl) (by kernel_rfl) (by kernel_rfl) (fun _ _ _ h => h) (Or.inl ⟨by rfl, ?_⟩) ?_
  rotate_left 1
  · intro w; go_simp; try with_reducible rfl
  refine wpAny_take (i := 1) (v := ?_) rfl (by kernel_rfl) (by kernel_rfl) (by kernel_rfl) (fun _ _ _ h => h) (Or.inl ⟨by rfl, ?_⟩) ?_
  rotate_left 1
  · intro w; go_simp; try with_reducible rfl
  refine wpAny_take (i := 2) (v := ?_) rfl (by kernel_rfl) (by kernel_rfl) (by kernel_rfl) (fun _ _ _ h => h) (Or.inl ⟨by rfl, ?_⟩) ?_
  rotate_left 1
  · intro w; go_simp; try with_reducible rfl
  refine wpAny_take (i := 4) (v := ?_) rfl (by kernel_rfl) (by kernel_rfl) (by kernel_rfl) (fun _ _ _ h => h) (Or.inl ⟨by rfl, ?_⟩) ?_
  rotate_left 1
  · intro w; go_simp; try with_reducible rfl
  refine wpAny_take (i := 5) (v := ?_) rfl (by kernel_rfl) (by kernel_rfl) (by kernel_rfl) (fun _ _ _ h => h) (Or.inl ⟨by rfl, ?_⟩) ?_
  rotate_left 1
  · intro w; go_simp; try with_reducible rfl
  refine wpAny_take (i := 6) (v := ?_) rfl (by kernel_rfl) (by kernel_rfl) (by kernel_rfl) (fun _ _ _ h => h) (Or.inl ⟨by rfl, ?_⟩) ?_
  rotate_left 1
  · intro w; go_simp; try with_reducible rfl
  refine wpAny_ready (rs := [3, 7]) (by kernel_rfl) (by simp) ?_
  refine AllReady.cons rfl (fun K hK => ?_) ?_
  · go_simp
    refine hK _ _ ?_; clear hK K
    refine wpAny_ready (rs := [7]) (by kernel_rfl) (by simp) ?_
    refine AllReady.cons rfl (fun K hK => ?_) ?_
    · go_simp
      refine hK _ _ ?_; clear hK K
      refine wpAny_ready (rs := [8]) (by kernel_rfl) (by simp) ?_
      refine AllReady.cons rfl (fun K hK => ?_) ?_
      · go_simp
        refine hK _ _ ?_; clear hK K
        refine wpAny_take (i := 9) (v := ?_) rfl (by kernel_rfl) (by kernel_rfl) (by kernel_rfl) (fun _ _ _ h => h) (Or.inl ⟨by rfl, ?_⟩) ?_
        rotate_left 1
        · intro w; go_simp; try with_reducible rfl
        refine wpAny_take (i := 10) (v := ?_) rfl (by kernel_rfl) (by kernel_rfl) (by kernel_rfl) (fun _ _ _ h => h) (Or.inl ⟨by rfl, ?_⟩) ?_
        rotate_left 1
        · intro w; go_simp; try with_reducible rfl
        refine wpAny_ready (rs := [11]) (by kernel_rfl) (by simp) ?_
        refine AllReady.cons rfl (fun K hK => ?_) ?_
        · go_simp
          refine hK _ _ ?_; clear hK K
          refine wpAny_ready (rs := [12]) (by kernel_rfl) (by simp) ?_
          refine AllReady.cons rfl (fun K hK => ?_) ?_
          · go_simp; refine (H2.out).mono ?_; rintro e w9 ⟨s', rfl, hn, hm9⟩; obtain ⟨A9, c9, rfl, _⟩ := hn.1.ls; have e9 := HB.out w9 hm9; obtain ⟨d0, d1, d2, d3, d4, d5, g0, g1, g2, g3, g4, g5⟩ := six_at e9; have E9 := Lib.hid (And.intro e9 (And.intro hn hm9)); clear hn e9 hm9
            refine hK _ _ ?_; clear hK K
            refine wpAny_ready (rs := [13]) (by kernel_rfl) (by simp) ?_
            refine AllReady.cons rfl (fun K hK => ?_) ?_
            · go_simp
              refine hK _ _ ?_; clear hK K
              refine wpAny_take (i := 14) (v := ?_) rfl (by kernel_rfl) (by kernel_rfl) (by kernel_rfl) (fun _ _ _ h => h) (Or.inl ⟨by rfl, ?_⟩) ?_
              rotate_left 1
              · intro w; go_simp; try with_reducible rfl
              refine wpAny_done (by kernel_rfl) ?_ _
              go_wp2_with fail
              obtain ⟨k1, k2, k3⟩ := box_ret E9.out.1 (Nat.le_refl _) (HM.out.trans E9.out.2.2) (q := ⟨k, a, b, x, y, l⟩) ⟨E9.out.2.1.1, fun g hg => Nat.le_trans HM.out.size (E9.out.2.1.2 g hg)⟩ (fun hx => by have h1 := E9.out.2.1.2 _ hx; have h2 := HZ.out; omega)
              exact bodyPost_ret (res_fr2 Try.results15 rfl k1) rfl ⟨_, rfl, k2, k3⟩
            exact AllReady.nil
          exact AllReady.nil
        exact AllReady.nil
      exact AllReady.nil
    exact AllReady.nil
  refine AllReady.cons rfl (fun K hK => ?_) ?_
  · go_simp
    refine hK _ _ ?_; clear hK K
    refine wpAny_ready (rs := [3, 8]) (by kernel_rfl) (by simp) ?_
    refine AllReady.cons rfl (fun K hK => ?_) ?_
    · go_simp
      refine hK _ _ ?_; clear hK K
      refine wpAny_ready (rs := [8]) (by kernel_rfl) (by simp) ?_
      refine AllReady.cons rfl (fun K hK => ?_) ?_
      · go_simp
        refine hK _ _ ?_; clear hK K
        refine wpAny_take (i := 9) (v := ?_) rfl (by kernel_rfl) (by kernel_rfl) (by kernel_rfl) (fun _ _ _ h => h) (Or.inl ⟨by rfl, ?_⟩) ?_
        rotate_left 1
        · intro w; go_simp; try with_reducible rfl
        refine wpAny_take (i := 10) (v := ?_) rfl (by kernel_rfl) (by kernel_rfl) (by kernel_rfl) (fun _ _ _ h => h) (Or.inl ⟨by rfl, ?_⟩) ?_
        rotate_left 1
        · intro w; go_simp; try with_reducible rfl
        refine wpAny_ready (rs := [11]) (by kernel_rfl) (by simp) ?_
        refine AllReady.cons rfl (fun K hK => ?_) ?_
        · go_simp
          refine hK _ _ ?_; clear hK K
          refine wpAny_ready (rs := [12]) (by kernel_rfl) (by simp) ?_
          refine AllReady.cons rfl (fun K hK => ?_) ?_
          · go_simp; refine (H2.out).mono ?_; rintro e w9 ⟨s', rfl, hn, hm9⟩; obtain ⟨A9, c9, rfl, _⟩ := hn.1.ls; have e9 := HB.out w9 hm9; obtain ⟨d0, d1, d2, d3, d4, d5, g0, g1, g2, g3, g4, g5⟩ := six_at e9; have E9 := Lib.hid (And.intro e9 (And.intro hn hm9)); clear hn e9 hm9
            refine hK _ _ ?_; clear hK K
            refine wpAny_ready (rs := [13]) (by kernel_rfl) (by simp) ?_
            refine AllReady.cons rfl (fun K hK => ?_) ?_
            · go_simp
              refine hK _ _ ?_; clear hK K
              refine wpAny_take (i := 14) (v := ?_) rfl (by kernel_rfl) (by kernel_rfl) (by kernel_rfl) (fun _ _ _ h => h) (Or.inl ⟨by rfl, ?_⟩) ?_
              rotate_left 1
              · intro w; go_simp; try with_reducible rfl
              refine wpAny_done (by kernel_rfl) ?_ _
              go_wp2_with fail
              obtain ⟨k1, k2, k3⟩ := box_ret E9.out.1 (Nat.le_refl _) (HM.out.trans E9.out.2.2) (q := ⟨k, a, b, x, y, l⟩) ⟨E9.out.2.1.1, fun g hg => Nat.le_trans HM.out.size (E9.out.2.1.2 g hg)⟩ (fun hx => by have h1 := E9.out.2.1.2 _ hx; have h2 := HZ.out; omega)
              exact bodyPost_ret (res_fr2 Try.results15 rfl k1) rfl ⟨_, rfl, k2, k3⟩
            exact AllReady.nil
          exact AllReady.nil
        exact AllReady.nil
      exact AllReady.nil
    refine AllReady.cons rfl (fun K hK => ?_) ?_
    · go_simp
      refine hK _ _ ?_; clear hK K
      refine wpAny_take (i := 9) (v := ?_) rfl (by kernel_rfl) (by kernel_rfl) (by kernel_rfl) (fun _ _ _ h => h) (Or.inl ⟨by rfl, ?_⟩) ?_
      rotate_left 1
      · intro w; go_simp; try with_reducible rfl
      refine wpAny_ready (rs := [3]) (by kernel_rfl) (by simp) ?_
      refine AllReady.cons rfl (fun K hK => ?_) ?_
      · go_simp
        refine hK _ _ ?_; clear hK K
        refine wpAny_take (i := 10) (v := ?_) rfl (by kernel_rfl) (by kernel_rfl) (by kernel_rfl) (fun _ _ _ h => h) (Or.inl ⟨by rfl, ?_⟩) ?_
        rotate_left 1
        · intro w; go_simp; try with_reducible rfl
        refine wpAny_ready (rs := [11]) (by kernel_rfl) (by simp) ?_
        refine AllReady.cons rfl (fun K hK => ?_) ?_
        · go_simp
          refine hK _ _ ?_; clear hK K
          refine wpAny_ready (rs := [12]) (by kernel_rfl) (by simp) ?_
          refine AllReady.cons rfl (fun K hK => ?_) ?_
          · go_simp; refine (H2.out).mono ?_; rintro e w9 ⟨s', rfl, hn, hm9⟩; obtain ⟨A9, c9, rfl, _⟩ := hn.1.ls; have e9 := HB.out w9 hm9; obtain ⟨d0, d1, d2, d3, d4, d5, g0, g1, g2, g3, g4, g5⟩ := six_at e9; have E9 := Lib.hid (And.intro e9 (And.intro hn hm9)); clear hn e9 hm9
            refine hK _ _ ?_; clear hK K
            refine wpAny_ready (rs := [13]) (by kernel_rfl) (by simp) ?_
            refine AllReady.cons rfl (fun K hK => ?_) ?_
            · go_simp
              refine hK _ _ ?_; clear hK K
              refine wpAny_take (i := 14) (v := ?_) rfl (by kernel_rfl) (by kernel_rfl) (by kernel_rfl) (fun _ _ _ h => h) (Or.inl ⟨by rfl, ?_⟩) ?_
              rotate_left 1
              · intro w; go_simp; try with_reducible rfl
              refine wpAny_done (by kernel_rfl) ?_ _
              go_wp2_with fail
              obtain ⟨k1, k2, k3⟩ := box_ret E9.out.1 (Nat.le_refl _) (HM.out.trans E9.out.2.2) (q := ⟨k, a, b, x, y, l⟩) ⟨E9.out.2.1.1, fun g hg => Nat.le_trans HM.out.size (E9.out.2.1.2 g hg)⟩ (fun hx => by have h1 := E9.out.2.1.2 _ hx; have h2 := HZ.out; omega)
              exact bodyPost_ret (res_fr2 Try.results15 rfl k1) rfl ⟨_, rfl, k2, k3⟩
            exact AllReady.nil
          exact AllReady.nil
        exact AllReady.nil
      exact AllReady.nil
    exact AllReady.nil
  exact AllReady.nil
  -- END
end Go.Proofs.Ytacmidlhfcnkiaa
