/- Layer 14: the document's New, Push. Condition: the block is frames (Fr). -/
import Derived.Test.YtacmidlhfcnkiaaHG
namespace Go.Proofs.Ytacmidlhfcnkiaa
open Go.RowKit
set_option linter.unusedVariables false

set_option maxHeartbeats 8000000 in
theorem rpush_calls {w : World} {p : Nat} {T : List Nat} {L : List Fm} (h : Fr TR w p T L) {q : Fm} {s : Value} (hs : Ls w s q.l) (hb : q.l.length ≤ 1000) : Calls Try.prog 28 #[Pt p, frV q s] w (Gives TR w p T (.int .i64 (pushE L)) (pushL L q)) := by
  obtain ⟨v, O, h, rfl, rfl, hsm⟩ := h
  have HS := Lib.hid (fun r (hr : r ∈ O.map Prod.fst ++ [q]) => (List.mem_append.1 hr).elim (hsm r) (fun hr => by rw [List.mem_singleton.1 hr]; exact hb) : ∀ r ∈ O.map Prod.fst ++ [q], r.l.length ≤ 1000)
  obtain ⟨A0, cap0, rfl, _⟩ := h.slice
  obtain ⟨n, hn⟩ : ∃ n, n = O.length := ⟨_, rfl⟩
  rw [← hn] at h ⊢
  have mA := al_mod w (.cells (cellsF q s) TF)
  have hA := h.far mA
  have c0 := hA.c0
  unfold Gives
  by_cases hf : 128 ≤ O.length
  · have e1 : pushE (O.map Prod.fst) = -5 := by unfold pushE; rw [if_pos (by simpa using hf)]
    have e2 : pushL (O.map Prod.fst) q = O.map Prod.fst := by unfold pushL; rw [if_pos (by simpa using hf)]
    have hfI : (128 : Int) ≤ (n : Int) := by omega
    have HN := Lib.hid (And.intro hA mA)
    rw [e1, e2]
    clear h hs hb hn hA mA e1 e2 hf hsm
    unfold frV
    go_enter Try.func28, Try.ntmps28
    go_wp2_with fail
    go_ret
    exact ⟨rfl, _, ⟨_, _, HN.out.1, rfl, rfl, fun r hr => HS.out r (List.mem_append.2 (Or.inl hr))⟩, (Turn.refl _ _).far HN.out.2⟩
  · have e1 : pushE (O.map Prod.fst) = 0 := by unfold pushE; rw [if_neg (by simpa using hf)]
    have e2 : ∀ s' : Value, pushL (O.map Prod.fst) q = (O ++ [(q, s')]).map Prod.fst := fun s' => by unfold pushL; rw [if_neg (by simpa using hf)]; simp
    have hfI : ¬ (128 : Int) ≤ (n : Int) := by omega
    obtain ⟨W1, hW1⟩ : ∃ W1, W1 = w.alloc (.cells (cellsF q s) TF) := ⟨_, rfl⟩
    rw [← hW1] at mA hA c0
    have b1 : W1.heap[w.heap.size]? = some (.cells (cellsF q s) TF (0, 0)) := by rw [hW1]; exact (MapKept.heap_alloc w _).1
    have md : Mod [] W1 W1.drew := (Mod.refl [] W1).drew
    have ma := al_mod W1.drew (.cells #[] TF)
    have hrow : W1.drew.ownsRow 0 TF 6 (.slice A0 n cap0) n (flatG O) := by have := (hA.far md).row; rw [← hn] at this; exact this
    obtain ⟨A1, c1, w1, e1', g1, _⟩ := elF.base ma (Nat.le_refl _) (lit_row TF 6 W1.drew) hrow (flatG_cells fun r hr => ((h.loc r hr).ls).one) (by have := h.few; omega) 27
    have e0 : (appF 27 #[.slice (some ⟨W1.heap.size, 0, none⟩) 0 0, .slice A0 n cap0]).run Try.prog (W1.alloc (.cells #[] TF)).drew = .ok (.slice A1 n c1) w1 := e1'
    obtain ⟨x0, x1, x2, x3, x4, x5, _⟩ := six_at (w := W1) b1
    obtain ⟨y0, y1, y2, y3, y4, y5, _⟩ := six_at (w := W1.alloc (.cells #[] TF)) (((al_mod W1 _).block _ (Array.getElem?_eq_some_iff.1 b1).1 (by simp)).trans b1)
    obtain ⟨z0, z1, z2, z3, z4, z5, _⟩ := six_at (w := w1) (((md.trans g1.m).block _ (Array.getElem?_eq_some_iff.1 b1).1 (by simp)).trans b1)
    have a0 := ((hA.far (al_mod W1 (.cells #[] TF))).c0)
    have H1 := Lib.hid (rcopied_calls (hs.far ((mA.trans md).trans g1.m)) (by omega))
    have PT := Lib.hid (fun (W : World) (hm : Mod [] w1 W) (s' : Value) (hs' : New w1 W s' q.l) => (by
      obtain ⟨A, c, w', r1, r2, r3, r4⟩ := h.anew (mA.trans md) hn (g1.far hm) (q := q) (s' := s') hs'.1 (fun g hg => Nat.le_trans ((mA.trans md).trans g1.m).size (hs'.2 g hg)) (by omega) 27
      exact ⟨A, c, w', r1, r2, r3, r4⟩ : ∃ A c w', (appF 27 #[.slice A1 n c1, .slice (some ⟨W.heap.size, 0, none⟩) 1 1]).run Try.prog (W.alloc (.cells (cellsF q s') TF)) = .ok (.slice A (n + 1) c) w' ∧ w'.cell? ⟨p, 0, none⟩ = some (.slice A0 n cap0) ∧ w'.frozen? ⟨p, 0, none⟩ = false ∧
        RowKit.Hid (Fv TR (w'.setCell ⟨p, 0, none⟩ (.slice A (n + 1) c)) p (.slice A (n + 1) c) (O ++ [(q, s')]) ∧ Turn (Sf p (.slice A0 n cap0) O) (Sf p (.slice A (n + 1) c) (O ++ [(q, s')])) w (w'.setCell ⟨p, 0, none⟩ (.slice A (n + 1) c)))))
    have E2 := Lib.hid e2
    have c0' : (w.alloc (.cells #[.int .i64 q.k, .int .i64 q.a, .int .i64 q.b, .int .i64 q.x, .int .i64 q.y, s] TF)).cell? ⟨p, 0, none⟩ = some (.slice A0 n cap0) := by rw [← hW1]; exact c0
    have HW := Lib.hid hW1
    rw [e1]
    clear h hs hb hn hA mA e1 e2 hf hsm md hW1 b1 ma hrow e1' g1
    unfold frV at H1 ⊢
    go_enter Try.func28, Try.ntmps28
    go_upto_region 3 with fail
    have hW1 := HW.out
    dsimp only [cellsF] at hW1
    rw [← hW1]
    clear hW1 HW c0'
    refine wp_region_any (by kernel_rfl) ?_
    try (change wpAny _ _ _ _ _ _ _ (World.drew _))
    refine wpAny_take (i := 0) (v := ?_) rfl (by kernel_rfl) (by kernel_rfl) (by kernel_rfl) (fun _ _ _ h => h) (Or.inl ⟨by rfl, ?_⟩) ?_
    rotate_left 1
    · intro w; go_simp; try with_reducible rfl
    refine wpAny_take (i := 2) (v := ?_) rfl (by kernel_rfl) (by kernel_rfl) (by kernel_rfl) (fun _ _ _ h => h) (Or.inl ⟨by rfl, ?_⟩) ?_
    rotate_left 1
    · intro w; go_simp; try with_reducible rfl
    refine wpAny_take (i := 3) (v := ?_) rfl (by kernel_rfl) (by kernel_rfl) (by kernel_rfl) (fun _ _ _ h => h) (Or.inl ⟨by rfl, ?_⟩) ?_
    rotate_left 1
    · intro w; go_simp; try with_reducible rfl
    refine wpAny_take (i := 4) (v := ?_) rfl (by kernel_rfl) (by kernel_rfl) (by kernel_rfl) (fun _ _ _ h => h) (Or.inl ⟨by rfl, ?_⟩) ?_
    rotate_left 1
    · intro w; go_simp; try with_reducible rfl
    refine wpAny_ready (rs := [1, 5, 7]) (by kernel_rfl) (by simp) ?_
    refine AllReady.cons rfl (fun K hK => ?_) ?_
    · go_simp
      refine hK _ _ ?_; clear hK K
      refine wpAny_ready (rs := [5, 7]) (by kernel_rfl) (by simp) ?_
      refine AllReady.cons rfl (fun K hK => ?_) ?_
      · go_simp
        refine hK _ _ ?_; clear hK K
        refine wpAny_ready (rs := [6, 7]) (by kernel_rfl) (by simp) ?_
        refine AllReady.cons rfl (fun K hK => ?_) ?_
        · refine step_appF (by rfl) (.tmp 12) (.tmp 16) (by rfl) (by rfl) (by rfl) e0 ?_
          refine hK _ _ ?_; clear hK K
          simp only [Act.put, List.setIfInBounds_toArray]
          refine wpAny_ready (rs := [7]) (by kernel_rfl) (by simp) ?_
          refine AllReady.cons rfl (fun K hK => ?_) ?_
          · go_simp
            refine hK _ _ ?_; clear hK K
            refine wpAny_ready (rs := [8]) (by kernel_rfl) (by simp) ?_
            refine AllReady.cons rfl (fun K hK => ?_) ?_
            · go_simp; refine (H1.out).mono ?_; rintro e w9 ⟨s', rfl, hn, hm⟩; obtain ⟨A5, c5, w5, e5, f5, g5, F5⟩ := PT.out w9 hm s' hn; obtain ⟨A9, c9, rfl, _⟩ := hn.1.ls; clear hn hm
              refine hK _ _ ?_; clear hK K
              refine wpAny_ready (rs := [9]) (by kernel_rfl) (by simp) ?_
              refine AllReady.cons rfl (fun K hK => ?_) ?_
              · go_simp
                refine hK _ _ ?_; clear hK K
                refine wpAny_ready (rs := [10]) (by kernel_rfl) (by simp) ?_
                refine AllReady.cons rfl (fun K hK => ?_) ?_
                · refine step_appF (by rfl) (.tmp 17) (.tmp 20) (by rfl) (by rfl) (by rfl) e5 ?_
                  refine hK _ _ ?_; clear hK K
                  simp only [Act.put, List.setIfInBounds_toArray]
                  refine wpAny_take (i := 11) (v := ?_) rfl (by kernel_rfl) (by kernel_rfl) (by kernel_rfl) (fun _ _ _ h => h) (Or.inl ⟨by rfl, ?_⟩) ?_
                  rotate_left 1
                  · intro w; go_simp; try with_reducible rfl
                  refine wpAny_take (i := 12) (v := ?_) rfl (by kernel_rfl) (by kernel_rfl) (by kernel_rfl) (fun _ _ _ h => h) (Or.inl ⟨by rfl, ?_⟩) ?_
                  rotate_left 1
                  · intro w; go_simp; try with_reducible rfl
                  refine wpAny_ready (rs := [13]) (by kernel_rfl) (by simp) ?_
                  refine AllReady.cons rfl (fun K hK => ?_) ?_
                  · go_simp
                    refine hK _ _ ?_; clear hK K
                    refine wpAny_done (by kernel_rfl) ?_ _
                    clear e5 f5 g5
                    go_wp2_with fail
                    go_ret
                    rw [E2.out]
                    exact ⟨rfl, _, ⟨_, _, F5.out.1, rfl, rfl, by simpa using HS.out⟩, F5.out.2⟩
                  exact AllReady.nil
                exact AllReady.nil
              exact AllReady.nil
            exact AllReady.nil
          exact AllReady.nil
        refine AllReady.cons rfl (fun K hK => ?_) ?_
        · go_simp
          refine hK _ _ ?_; clear hK K
          refine wpAny_ready (rs := [6]) (by kernel_rfl) (by simp) ?_
          refine AllReady.cons rfl (fun K hK => ?_) ?_
          · refine step_appF (by rfl) (.tmp 12) (.tmp 16) (by rfl) (by rfl) (by rfl) e0 ?_
            refine hK _ _ ?_; clear hK K
            simp only [Act.put, List.setIfInBounds_toArray]
            refine wpAny_ready (rs := [8]) (by kernel_rfl) (by simp) ?_
            refine AllReady.cons rfl (fun K hK => ?_) ?_
            · go_simp; refine (H1.out).mono ?_; rintro e w9 ⟨s', rfl, hn, hm⟩; obtain ⟨A5, c5, w5, e5, f5, g5, F5⟩ := PT.out w9 hm s' hn; obtain ⟨A9, c9, rfl, _⟩ := hn.1.ls; clear hn hm
              refine hK _ _ ?_; clear hK K
              refine wpAny_ready (rs := [9]) (by kernel_rfl) (by simp) ?_
              refine AllReady.cons rfl (fun K hK => ?_) ?_
              · go_simp
                refine hK _ _ ?_; clear hK K
                refine wpAny_ready (rs := [10]) (by kernel_rfl) (by simp) ?_
                refine AllReady.cons rfl (fun K hK => ?_) ?_
                · refine step_appF (by rfl) (.tmp 17) (.tmp 20) (by rfl) (by rfl) (by rfl) e5 ?_
                  refine hK _ _ ?_; clear hK K
                  simp only [Act.put, List.setIfInBounds_toArray]
                  refine wpAny_take (i := 11) (v := ?_) rfl (by kernel_rfl) (by kernel_rfl) (by kernel_rfl) (fun _ _ _ h => h) (Or.inl ⟨by rfl, ?_⟩) ?_
                  rotate_left 1
                  · intro w; go_simp; try with_reducible rfl
                  refine wpAny_take (i := 12) (v := ?_) rfl (by kernel_rfl) (by kernel_rfl) (by kernel_rfl) (fun _ _ _ h => h) (Or.inl ⟨by rfl, ?_⟩) ?_
                  rotate_left 1
                  · intro w; go_simp; try with_reducible rfl
                  refine wpAny_ready (rs := [13]) (by kernel_rfl) (by simp) ?_
                  refine AllReady.cons rfl (fun K hK => ?_) ?_
                  · go_simp
                    refine hK _ _ ?_; clear hK K
                    refine wpAny_done (by kernel_rfl) ?_ _
                    clear e5 f5 g5
                    go_wp2_with fail
                    go_ret
                    rw [E2.out]
                    exact ⟨rfl, _, ⟨_, _, F5.out.1, rfl, rfl, by simpa using HS.out⟩, F5.out.2⟩
                  exact AllReady.nil
                exact AllReady.nil
              exact AllReady.nil
            exact AllReady.nil
          exact AllReady.nil
        exact AllReady.nil
      refine AllReady.cons rfl (fun K hK => ?_) ?_
      · go_simp
        refine hK _ _ ?_; clear hK K
        refine wpAny_ready (rs := [5]) (by kernel_rfl) (by simp) ?_
        refine AllReady.cons rfl (fun K hK => ?_) ?_
        · go_simp
          refine hK _ _ ?_; clear hK K
          refine wpAny_ready (rs := [6]) (by kernel_rfl) (by simp) ?_
          refine AllReady.cons rfl (fun K hK => ?_) ?_
          · refine step_appF (by rfl) (.tmp 12) (.tmp 16) (by rfl) (by rfl) (by rfl) e0 ?_
            refine hK _ _ ?_; clear hK K
            simp only [Act.put, List.setIfInBounds_toArray]
            refine wpAny_ready (rs := [8]) (by kernel_rfl) (by simp) ?_
            refine AllReady.cons rfl (fun K hK => ?_) ?_
            · go_simp; refine (H1.out).mono ?_; rintro e w9 ⟨s', rfl, hn, hm⟩; obtain ⟨A5, c5, w5, e5, f5, g5, F5⟩ := PT.out w9 hm s' hn; obtain ⟨A9, c9, rfl, _⟩ := hn.1.ls; clear hn hm
              refine hK _ _ ?_; clear hK K
              refine wpAny_ready (rs := [9]) (by kernel_rfl) (by simp) ?_
              refine AllReady.cons rfl (fun K hK => ?_) ?_
              · go_simp
                refine hK _ _ ?_; clear hK K
                refine wpAny_ready (rs := [10]) (by kernel_rfl) (by simp) ?_
                refine AllReady.cons rfl (fun K hK => ?_) ?_
                · refine step_appF (by rfl) (.tmp 17) (.tmp 20) (by rfl) (by rfl) (by rfl) e5 ?_
                  refine hK _ _ ?_; clear hK K
                  simp only [Act.put, List.setIfInBounds_toArray]
                  refine wpAny_take (i := 11) (v := ?_) rfl (by kernel_rfl) (by kernel_rfl) (by kernel_rfl) (fun _ _ _ h => h) (Or.inl ⟨by rfl, ?_⟩) ?_
                  rotate_left 1
                  · intro w; go_simp; try with_reducible rfl
                  refine wpAny_take (i := 12) (v := ?_) rfl (by kernel_rfl) (by kernel_rfl) (by kernel_rfl) (fun _ _ _ h => h) (Or.inl ⟨by rfl, ?_⟩) ?_
                  rotate_left 1
                  · intro w; go_simp; try with_reducible rfl
                  refine wpAny_ready (rs := [13]) (by kernel_rfl) (by simp) ?_
                  refine AllReady.cons rfl (fun K hK => ?_) ?_
                  · go_simp
                    refine hK _ _ ?_; clear hK K
                    refine wpAny_done (by kernel_rfl) ?_ _
                    clear e5 f5 g5
                    go_wp2_with fail
                    go_ret
                    rw [E2.out]
                    exact ⟨rfl, _, ⟨_, _, F5.out.1, rfl, rfl, by simpa using HS.out⟩, F5.out.2⟩
                  exact AllReady.nil
                exact AllReady.nil
              exact AllReady.nil
            exact AllReady.nil
          exact AllReady.nil
        exact AllReady.nil
      exact AllReady.nil
    refine AllReady.cons rfl (fun K hK => ?_) ?_
    · go_simp
      refine hK _ _ ?_; clear hK K
      refine wpAny_ready (rs := [1, 7]) (by kernel_rfl) (by simp) ?_
      refine AllReady.cons rfl (fun K hK => ?_) ?_
      · go_simp
        refine hK _ _ ?_; clear hK K
        refine wpAny_ready (rs := [6, 7]) (by kernel_rfl) (by simp) ?_
        refine AllReady.cons rfl (fun K hK => ?_) ?_
        · refine step_appF (by rfl) (.tmp 12) (.tmp 16) (by rfl) (by rfl) (by rfl) e0 ?_
          refine hK _ _ ?_; clear hK K
          simp only [Act.put, List.setIfInBounds_toArray]
          refine wpAny_ready (rs := [7]) (by kernel_rfl) (by simp) ?_
          refine AllReady.cons rfl (fun K hK => ?_) ?_
          · go_simp
            refine hK _ _ ?_; clear hK K
            refine wpAny_ready (rs := [8]) (by kernel_rfl) (by simp) ?_
            refine AllReady.cons rfl (fun K hK => ?_) ?_
            · go_simp; refine (H1.out).mono ?_; rintro e w9 ⟨s', rfl, hn, hm⟩; obtain ⟨A5, c5, w5, e5, f5, g5, F5⟩ := PT.out w9 hm s' hn; obtain ⟨A9, c9, rfl, _⟩ := hn.1.ls; clear hn hm
              refine hK _ _ ?_; clear hK K
              refine wpAny_ready (rs := [9]) (by kernel_rfl) (by simp) ?_
              refine AllReady.cons rfl (fun K hK => ?_) ?_
              · go_simp
                refine hK _ _ ?_; clear hK K
                refine wpAny_ready (rs := [10]) (by kernel_rfl) (by simp) ?_
                refine AllReady.cons rfl (fun K hK => ?_) ?_
                · refine step_appF (by rfl) (.tmp 17) (.tmp 20) (by rfl) (by rfl) (by rfl) e5 ?_
                  refine hK _ _ ?_; clear hK K
                  simp only [Act.put, List.setIfInBounds_toArray]
                  refine wpAny_take (i := 11) (v := ?_) rfl (by kernel_rfl) (by kernel_rfl) (by kernel_rfl) (fun _ _ _ h => h) (Or.inl ⟨by rfl, ?_⟩) ?_
                  rotate_left 1
                  · intro w; go_simp; try with_reducible rfl
                  refine wpAny_take (i := 12) (v := ?_) rfl (by kernel_rfl) (by kernel_rfl) (by kernel_rfl) (fun _ _ _ h => h) (Or.inl ⟨by rfl, ?_⟩) ?_
                  rotate_left 1
                  · intro w; go_simp; try with_reducible rfl
                  refine wpAny_ready (rs := [13]) (by kernel_rfl) (by simp) ?_
                  refine AllReady.cons rfl (fun K hK => ?_) ?_
                  · go_simp
                    refine hK _ _ ?_; clear hK K
                    refine wpAny_done (by kernel_rfl) ?_ _
                    clear e5 f5 g5
                    go_wp2_with fail
                    go_ret
                    rw [E2.out]
                    exact ⟨rfl, _, ⟨_, _, F5.out.1, rfl, rfl, by simpa using HS.out⟩, F5.out.2⟩
                  exact AllReady.nil
                exact AllReady.nil
              exact AllReady.nil
            exact AllReady.nil
          exact AllReady.nil
        refine AllReady.cons rfl (fun K hK => ?_) ?_
        · go_simp
          refine hK _ _ ?_; clear hK K
          refine wpAny_ready (rs := [6]) (by kernel_rfl) (by simp) ?_
          refine AllReady.cons rfl (fun K hK => ?_) ?_
          · refine step_appF (by rfl) (.tmp 12) (.tmp 16) (by rfl) (by rfl) (by rfl) e0 ?_
            refine hK _ _ ?_; clear hK K
            simp only [Act.put, List.setIfInBounds_toArray]
            refine wpAny_ready (rs := [8]) (by kernel_rfl) (by simp) ?_
            refine AllReady.cons rfl (fun K hK => ?_) ?_
            · go_simp; refine (H1.out).mono ?_; rintro e w9 ⟨s', rfl, hn, hm⟩; obtain ⟨A5, c5, w5, e5, f5, g5, F5⟩ := PT.out w9 hm s' hn; obtain ⟨A9, c9, rfl, _⟩ := hn.1.ls; clear hn hm
              refine hK _ _ ?_; clear hK K
              refine wpAny_ready (rs := [9]) (by kernel_rfl) (by simp) ?_
              refine AllReady.cons rfl (fun K hK => ?_) ?_
              · go_simp
                refine hK _ _ ?_; clear hK K
                refine wpAny_ready (rs := [10]) (by kernel_rfl) (by simp) ?_
                refine AllReady.cons rfl (fun K hK => ?_) ?_
                · refine step_appF (by rfl) (.tmp 17) (.tmp 20) (by rfl) (by rfl) (by rfl) e5 ?_
                  refine hK _ _ ?_; clear hK K
                  simp only [Act.put, List.setIfInBounds_toArray]
                  refine wpAny_take (i := 11) (v := ?_) rfl (by kernel_rfl) (by kernel_rfl) (by kernel_rfl) (fun _ _ _ h => h) (Or.inl ⟨by rfl, ?_⟩) ?_
                  rotate_left 1
                  · intro w; go_simp; try with_reducible rfl
                  refine wpAny_take (i := 12) (v := ?_) rfl (by kernel_rfl) (by kernel_rfl) (by kernel_rfl) (fun _ _ _ h => h) (Or.inl ⟨by rfl, ?_⟩) ?_
                  rotate_left 1
                  · intro w; go_simp; try with_reducible rfl
                  refine wpAny_ready (rs := [13]) (by kernel_rfl) (by simp) ?_
                  refine AllReady.cons rfl (fun K hK => ?_) ?_
                  · go_simp
                    refine hK _ _ ?_; clear hK K
                    refine wpAny_done (by kernel_rfl) ?_ _
                    clear e5 f5 g5
                    go_wp2_with fail
                    go_ret
                    rw [E2.out]
                    exact ⟨rfl, _, ⟨_, _, F5.out.1, rfl, rfl, by simpa using HS.out⟩, F5.out.2⟩
                  exact AllReady.nil
                exact AllReady.nil
              exact AllReady.nil
            exact AllReady.nil
          exact AllReady.nil
        exact AllReady.nil
      refine AllReady.cons rfl (fun K hK => ?_) ?_
      · go_simp
        refine hK _ _ ?_; clear hK K
        refine wpAny_ready (rs := [1]) (by kernel_rfl) (by simp) ?_
        refine AllReady.cons rfl (fun K hK => ?_) ?_
        · go_simp
          refine hK _ _ ?_; clear hK K
          refine wpAny_ready (rs := [6]) (by kernel_rfl) (by simp) ?_
          refine AllReady.cons rfl (fun K hK => ?_) ?_
          · refine step_appF (by rfl) (.tmp 12) (.tmp 16) (by rfl) (by rfl) (by rfl) e0 ?_
            refine hK _ _ ?_; clear hK K
            simp only [Act.put, List.setIfInBounds_toArray]
            refine wpAny_ready (rs := [8]) (by kernel_rfl) (by simp) ?_
            refine AllReady.cons rfl (fun K hK => ?_) ?_
            · go_simp; refine (H1.out).mono ?_; rintro e w9 ⟨s', rfl, hn, hm⟩; obtain ⟨A5, c5, w5, e5, f5, g5, F5⟩ := PT.out w9 hm s' hn; obtain ⟨A9, c9, rfl, _⟩ := hn.1.ls; clear hn hm
              refine hK _ _ ?_; clear hK K
              refine wpAny_ready (rs := [9]) (by kernel_rfl) (by simp) ?_
              refine AllReady.cons rfl (fun K hK => ?_) ?_
              · go_simp
                refine hK _ _ ?_; clear hK K
                refine wpAny_ready (rs := [10]) (by kernel_rfl) (by simp) ?_
                refine AllReady.cons rfl (fun K hK => ?_) ?_
                · refine step_appF (by rfl) (.tmp 17) (.tmp 20) (by rfl) (by rfl) (by rfl) e5 ?_
                  refine hK _ _ ?_; clear hK K
                  simp only [Act.put, List.setIfInBounds_toArray]
                  refine wpAny_take (i := 11) (v := ?_) rfl (by kernel_rfl) (by kernel_rfl) (by kernel_rfl) (fun _ _ _ h => h) (Or.inl ⟨by rfl, ?_⟩) ?_
                  rotate_left 1
                  · intro w; go_simp; try with_reducible rfl
                  refine wpAny_take (i := 12) (v := ?_) rfl (by kernel_rfl) (by kernel_rfl) (by kernel_rfl) (fun _ _ _ h => h) (Or.inl ⟨by rfl, ?_⟩) ?_
                  rotate_left 1
                  · intro w; go_simp; try with_reducible rfl
                  refine wpAny_ready (rs := [13]) (by kernel_rfl) (by simp) ?_
                  refine AllReady.cons rfl (fun K hK => ?_) ?_
                  · go_simp
                    refine hK _ _ ?_; clear hK K
                    refine wpAny_done (by kernel_rfl) ?_ _
                    clear e5 f5 g5
                    go_wp2_with fail
                    go_ret
                    rw [E2.out]
                    exact ⟨rfl, _, ⟨_, _, F5.out.1, rfl, rfl, by simpa using HS.out⟩, F5.out.2⟩
                  exact AllReady.nil
                exact AllReady.nil
              exact AllReady.nil
            exact AllReady.nil
          exact AllReady.nil
        exact AllReady.nil
      exact AllReady.nil
    refine AllReady.cons rfl (fun K hK => ?_) ?_
    · go_simp
      refine hK _ _ ?_; clear hK K
      refine wpAny_ready (rs := [1, 5]) (by kernel_rfl) (by simp) ?_
      refine AllReady.cons rfl (fun K hK => ?_) ?_
      · go_simp
        refine hK _ _ ?_; clear hK K
        refine wpAny_ready (rs := [5]) (by kernel_rfl) (by simp) ?_
        refine AllReady.cons rfl (fun K hK => ?_) ?_
        · go_simp
          refine hK _ _ ?_; clear hK K
          refine wpAny_ready (rs := [6]) (by kernel_rfl) (by simp) ?_
          refine AllReady.cons rfl (fun K hK => ?_) ?_
          · refine step_appF (by rfl) (.tmp 12) (.tmp 16) (by rfl) (by rfl) (by rfl) e0 ?_
            refine hK _ _ ?_; clear hK K
            simp only [Act.put, List.setIfInBounds_toArray]
            refine wpAny_ready (rs := [8]) (by kernel_rfl) (by simp) ?_
            refine AllReady.cons rfl (fun K hK => ?_) ?_
            · go_simp; refine (H1.out).mono ?_; rintro e w9 ⟨s', rfl, hn, hm⟩; obtain ⟨A5, c5, w5, e5, f5, g5, F5⟩ := PT.out w9 hm s' hn; obtain ⟨A9, c9, rfl, _⟩ := hn.1.ls; clear hn hm
              refine hK _ _ ?_; clear hK K
              refine wpAny_ready (rs := [9]) (by kernel_rfl) (by simp) ?_
              refine AllReady.cons rfl (fun K hK => ?_) ?_
              · go_simp
                refine hK _ _ ?_; clear hK K
                refine wpAny_ready (rs := [10]) (by kernel_rfl) (by simp) ?_
                refine AllReady.cons rfl (fun K hK => ?_) ?_
                · refine step_appF (by rfl) (.tmp 17) (.tmp 20) (by rfl) (by rfl) (by rfl) e5 ?_
                  refine hK _ _ ?_; clear hK K
                  simp only [Act.put, List.setIfInBounds_toArray]
                  refine wpAny_take (i := 11) (v := ?_) rfl (by kernel_rfl) (by kernel_rfl) (by kernel_rfl) (fun _ _ _ h => h) (Or.inl ⟨by rfl, ?_⟩) ?_
                  rotate_left 1
                  · intro w; go_simp; try with_reducible rfl
                  refine wpAny_take (i := 12) (v := ?_) rfl (by kernel_rfl) (by kernel_rfl) (by kernel_rfl) (fun _ _ _ h => h) (Or.inl ⟨by rfl, ?_⟩) ?_
                  rotate_left 1
                  · intro w; go_simp; try with_reducible rfl
                  refine wpAny_ready (rs := [13]) (by kernel_rfl) (by simp) ?_
                  refine AllReady.cons rfl (fun K hK => ?_) ?_
                  · go_simp
                    refine hK _ _ ?_; clear hK K
                    refine wpAny_done (by kernel_rfl) ?_ _
                    clear e5 f5 g5
                    go_wp2_with fail
                    go_ret
                    rw [E2.out]
                    exact ⟨rfl, _, ⟨_, _, F5.out.1, rfl, rfl, by simpa using HS.out⟩, F5.out.2⟩
                  exact AllReady.nil
                exact AllReady.nil
              exact AllReady.nil
            exact AllReady.nil
          exact AllReady.nil
        exact AllReady.nil
      refine AllReady.cons rfl (fun K hK => ?_) ?_
      · go_simp
        refine hK _ _ ?_; clear hK K
        refine wpAny_ready (rs := [1]) (by kernel_rfl) (by simp) ?_
        refine AllReady.cons rfl (fun K hK => ?_) ?_
        · go_simp
          refine hK _ _ ?_; clear hK K
          refine wpAny_ready (rs := [6]) (by kernel_rfl) (by simp) ?_
          refine AllReady.cons rfl (fun K hK => ?_) ?_
          · refine step_appF (by rfl) (.tmp 12) (.tmp 16) (by rfl) (by rfl) (by rfl) e0 ?_
            refine hK _ _ ?_; clear hK K
            simp only [Act.put, List.setIfInBounds_toArray]
            refine wpAny_ready (rs := [8]) (by kernel_rfl) (by simp) ?_
            refine AllReady.cons rfl (fun K hK => ?_) ?_
            · go_simp; refine (H1.out).mono ?_; rintro e w9 ⟨s', rfl, hn, hm⟩; obtain ⟨A5, c5, w5, e5, f5, g5, F5⟩ := PT.out w9 hm s' hn; obtain ⟨A9, c9, rfl, _⟩ := hn.1.ls; clear hn hm
              refine hK _ _ ?_; clear hK K
              refine wpAny_ready (rs := [9]) (by kernel_rfl) (by simp) ?_
              refine AllReady.cons rfl (fun K hK => ?_) ?_
              · go_simp
                refine hK _ _ ?_; clear hK K
                refine wpAny_ready (rs := [10]) (by kernel_rfl) (by simp) ?_
                refine AllReady.cons rfl (fun K hK => ?_) ?_
                · refine step_appF (by rfl) (.tmp 17) (.tmp 20) (by rfl) (by rfl) (by rfl) e5 ?_
                  refine hK _ _ ?_; clear hK K
                  simp only [Act.put, List.setIfInBounds_toArray]
                  refine wpAny_take (i := 11) (v := ?_) rfl (by kernel_rfl) (by kernel_rfl) (by kernel_rfl) (fun _ _ _ h => h) (Or.inl ⟨by rfl, ?_⟩) ?_
                  rotate_left 1
                  · intro w; go_simp; try with_reducible rfl
                  refine wpAny_take (i := 12) (v := ?_) rfl (by kernel_rfl) (by kernel_rfl) (by kernel_rfl) (fun _ _ _ h => h) (Or.inl ⟨by rfl, ?_⟩) ?_
                  rotate_left 1
                  · intro w; go_simp; try with_reducible rfl
                  refine wpAny_ready (rs := [13]) (by kernel_rfl) (by simp) ?_
                  refine AllReady.cons rfl (fun K hK => ?_) ?_
                  · go_simp
                    refine hK _ _ ?_; clear hK K
                    refine wpAny_done (by kernel_rfl) ?_ _
                    clear e5 f5 g5
                    go_wp2_with fail
                    go_ret
                    rw [E2.out]
                    exact ⟨rfl, _, ⟨_, _, F5.out.1, rfl, rfl, by simpa using HS.out⟩, F5.out.2⟩
                  exact AllReady.nil
                exact AllReady.nil
              exact AllReady.nil
            exact AllReady.nil
          exact AllReady.nil
        exact AllReady.nil
      exact AllReady.nil
    exact AllReady.nil
end Go.Proofs.Ytacmidlhfcnkiaa
