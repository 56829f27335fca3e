/- Layer 11 (package flow): a gap more for the topmost loop. Condition: the block is a builder (Bl) with so many instructions and parts. -/
import Derived.Test.YtnclfopdgilgaaaFK
import Derived.Deep.Cut
import Derived.Deep.DeepCutAuto
namespace Go.Proofs.Ytnclfopdgilgaaa
open Go.RowKit
set_option linter.unusedVariables false

theorem mid_map {O : List (Pk × Value)} {C : List Pk} {q : Pk} {D : List Pk} (h : C ++ q :: D = O.map Prod.fst) : ∃ A v B, O = A ++ (q, v) :: B ∧ C = A.map Prod.fst ∧ D = B.map Prod.fst := by
  induction C generalizing O with
  | nil =>
    cases O with
    | nil => simp at h
    | cons x r =>
      simp only [List.nil_append, List.map_cons, List.cons.injEq] at h
      exact ⟨[], x.2, r, by rw [h.1]; rfl, rfl, h.2⟩
  | cons c C ih =>
    cases O with
    | nil => simp at h
    | cons x r =>
      simp only [List.cons_append, List.map_cons, List.cons.injEq] at h
      obtain ⟨A, v, B, rfl, h2, h3⟩ := ih h.2
      exact ⟨x :: A, v, B, rfl, by rw [h.1, h2]; rfl, h3⟩
set_option maxHeartbeats 4000000 in
set_option maxRecDepth 100000 in
theorem leave_acts (L : List Xi) (C : List Pk) (q : Pk) (D : List Pk) (i : Nat) (hl : L.length = i + 1) (hi : i ≤ 999) (hd : (C ++ q :: D).length ≤ 1000) (hq : q.k = 3) (hD : ∀ d ∈ D, d.k ≠ 3) (hq2 : q.g.length ≤ 1000) :
    Acts 50 ⟨L, C ++ q :: D⟩ ⟨L, C ++ { q with g := q.g ++ [i] } :: D⟩ := fun w p S h => by
  obtain ⟨vc, vo, O, h, h2, rfl⟩ := h
  have htop := topmost_is (C := C) hq hD
  obtain ⟨A, v, B, rfl, rfl, rfl⟩ := mid_map h2
  obtain ⟨A3, c3, hv3⟩ : ∃ A3 c3, v = .slice A3 q.g.length c3 := (h.gaps (q, v) (by simp)).slice
  obtain ⟨gl, hgl⟩ : ∃ gl, gl = q.g.length := ⟨_, rfl⟩
  rw [← hgl] at hv3
  subst hv3
  obtain ⟨n, hn⟩ : ∃ n, n = (A ++ (q, Value.slice A3 gl c3) :: B).length := ⟨_, rfl⟩
  obtain ⟨g, cap, rfl, hgp, _⟩ := h.part
  obtain ⟨a, ha⟩ : ∃ a, a = A.length := ⟨_, rfl⟩
  have H1 := Lib.hid (fun (W : World) (m : Mod [] w W) => topmost_calls (h.far m) (by simp at hd ⊢; omega) 3 3 rfl)
  rw [← h2, htop, List.length_map, ← ha] at H1
  have k1 := h.c1
  rw [← hn] at k1
  have haI : (a : Int) < (n : Int) := by rw [hn, ha]; simp; omega
  have hnI : (n : Int) ≤ 1000 := by rw [hn]; simp at hd ⊢; omega
  have HN := Lib.hid (And.intro hl (And.intro hi (And.intro hd (And.intro hq2 (And.intro hgl (And.intro ha hn))))))
  have H0 := Lib.hid h
  have HK1 := Lib.hid k1
  clear h h2 hl hi hd hq hD hq2 htop hgl ha hn
  go_enter Try.func50, Try.ntmps50
  go_upto_region 0 with fail
  go_cut [2] (fun u wx => u = .pointer (some ⟨g, a * 3, none⟩) ∧ RowKit.Hid (Mod [] w wx))
  case first =>
    go_region_with (first
      | (go_at_call 55; (with_reducible refine (H1.out _ (Mod.refl [] w).drew).mono ?_); rintro e w1 ⟨rfl, hm1⟩; have HM1 := Lib.hid ((Mod.refl [] w).drew.trans hm1); have j1 := HM1.out.cell (by simp) HK1.out; clear hm1)
      | fail)
    all_goals
      go_wp2_with fail
      go_meet
      case rel => exact ⟨rfl, HM1⟩
  case rest =>
    obtain ⟨rfl, hm⟩ := hcut
    have h := H0.out.far hm.out
    obtain ⟨g', cap', e, _, _, _, c2, fr, _⟩ := h.part
    simp only [Value.slice.injEq, Option.some.injEq, Addr.mk.injEq, and_true] at e
    obtain ⟨rfl, _, rfl⟩ := e
    dsimp only at c2
    have hM3 : Mod [] wc (wc.alloc (.cells #[.int .i64 (i : Int)] 3)).drew := ((Mod.refl [] wc).alloc _).drew
    obtain ⟨A', n', cp', w', hr, hmm, hB, hTT⟩ := h.gap_app hM3 HN.out.2.2.2.1 i 46 ⟨wc.heap.size, 0, none⟩ 1 (one_int wc (i : Int))
    have kq := (h.gp (q, Value.slice A3 gl c3) (by simp)).2
    have hgv : g ∉ (Value.slice A3 gl c3).ownBlock.toList := fun hx => (kq g (by simpa using hx)).2 rfl
    have c2Z := hM3.cell (by simp) c2
    have g2 := hmm.cell (x := ⟨g, A.length * 3 + 2, none⟩) hgv c2Z
    have gf := (hmm.frozen (x := ⟨g, A.length * 3 + 2, none⟩) hgv (World.block_lt_of_cell? _ _ c2Z)).trans ((hM3.frozen (x := ⟨g, A.length * 3 + 2, none⟩) (by simp) (World.block_lt_of_cell? _ _ c2)).trans (fr _))
    have c2Y : (wc.alloc (.cells #[.int .i64 (i : Int)] 3)).cell? ⟨g, A.length * 3 + 2, none⟩ = some (.slice A3 gl c3) := c2Z
    have HL := Lib.hid (last_bl (Bl.of_bv (h.far (Mod.refl [] wc).drew)) i HN.out.1 HN.out.2.1)
    have HF := Lib.hid (And.intro hB (hTT.ahead hm.out))
    replace hr : (appInts 46 _).run Try.prog _ = .ok (.slice A' n' cp') w' := hr
    rw [← HN.out.2.2.2.2.2.1] at c2 c2Y g2 gf HF
    clear h hm hM3 hmm hB hTT c2Z hgv kq fr H0 H1 k1 haI hnI
    go_upto_region 1 with fail
    refine wp_region_any (by kernel_rfl) ?_
    try (change wpAny _ _ _ _ _ _ _ (World.drew _))
    refine wpAny_take (i := 0) (v := ?_) rfl (by kernel_rfl) (by kernel_rfl) (by kernel_rfl) (fun _ _ _ h => h) (Or.inl ⟨by rfl, ?_⟩) ?_
    rotate_left 1
    · intro w; go_simp; try with_reducible rfl
    refine wpAny_take (i := 1) (v := ?_) rfl (by kernel_rfl) (by kernel_rfl) (by kernel_rfl) (fun _ _ _ h => h) (Or.inl ⟨by rfl, ?_⟩) ?_
    rotate_left 1
    · intro w; go_simp; try with_reducible rfl
    refine wpAny_take (i := 2) (v := ?_) rfl (by kernel_rfl) (by kernel_rfl) (by kernel_rfl) (fun _ _ _ h => h) (Or.inl ⟨by rfl, ?_⟩) ?_
    rotate_left 1
    · intro w; go_simp; try with_reducible rfl
    refine wpAny_take (i := 3) (v := ?_) rfl (by kernel_rfl) (by kernel_rfl) (by kernel_rfl) (fun _ _ _ h => h) (Or.inl ⟨by rfl, ?_⟩) ?_
    rotate_left 1
    · intro w; go_simp; try with_reducible rfl
    refine wpAny_take (i := 5) (v := ?_) rfl (by kernel_rfl) (by kernel_rfl) (by kernel_rfl) (fun _ _ _ h => h) (Or.inl ⟨by rfl, ?_⟩) ?_
    rotate_left 1
    · intro w; go_simp; try with_reducible rfl
    refine wpAny_ready (rs := [4, 6]) (by kernel_rfl) (by simp) ?_
    refine AllReady.cons rfl (fun K hK => ?_) ?_
    · go_simp
      refine hK _ _ ?_; clear hK K
      refine wpAny_ready (rs := [6]) (by kernel_rfl) (by simp) ?_
      refine AllReady.cons rfl (fun K hK => ?_) ?_
      · go_simp; refine HL.out.mono ?_; rintro e w9 ⟨rfl, rfl⟩
        refine hK _ _ ?_; clear hK K
        refine wpAny_ready (rs := [7]) (by kernel_rfl) (by simp) ?_
        refine AllReady.cons rfl (fun K hK => ?_) ?_
        · go_simp
          refine hK _ _ ?_; clear hK K
          refine wpAny_ready (rs := [8]) (by kernel_rfl) (by simp) ?_
          refine AllReady.cons rfl (fun K hK => ?_) ?_
          · refine step_appI (by rfl) (.tmp 14) (.tmp 17) (by rfl) (by rfl) (by rfl) hr ?_
            refine hK _ _ ?_; clear hK K
            simp only [Act.put, List.setIfInBounds_toArray]
            refine wpAny_take (i := 9) (v := ?_) rfl (by kernel_rfl) (by kernel_rfl) (by kernel_rfl) (fun _ _ _ h => h) (Or.inl ⟨by rfl, ?_⟩) ?_
            rotate_left 1
            · intro w; go_simp; try with_reducible rfl
            refine wpAny_take (i := 10) (v := ?_) rfl (by kernel_rfl) (by kernel_rfl) (by kernel_rfl) (fun _ _ _ h => h) (Or.inl ⟨by rfl, ?_⟩) ?_
            rotate_left 1
            · intro w; go_simp; try with_reducible rfl
            refine wpAny_ready (rs := [11]) (by kernel_rfl) (by simp) ?_
            refine AllReady.cons rfl (fun K hK => ?_) ?_
            · go_simp
              refine hK _ _ ?_; clear hK K
              refine wpAny_done (by kernel_rfl) ?_ _
              clear hr c2 c2Y g2 gf
              go_wp2_with fail
              go_end0
              refine ⟨⟨_, rfl⟩, _, ⟨_, _, _, HF.out.1, ?_, rfl⟩, HF.out.2⟩
              simp
            exact AllReady.nil
          exact AllReady.nil
        exact AllReady.nil
      exact AllReady.nil
    refine AllReady.cons rfl (fun K hK => ?_) ?_
    · go_simp; refine HL.out.mono ?_; rintro e w9 ⟨rfl, rfl⟩
      refine hK _ _ ?_; clear hK K
      refine wpAny_ready (rs := [4, 7]) (by kernel_rfl) (by simp) ?_
      refine AllReady.cons rfl (fun K hK => ?_) ?_
      · go_simp
        refine hK _ _ ?_; clear hK K
        refine wpAny_ready (rs := [7]) (by kernel_rfl) (by simp) ?_
        refine AllReady.cons rfl (fun K hK => ?_) ?_
        · go_simp
          refine hK _ _ ?_; clear hK K
          refine wpAny_ready (rs := [8]) (by kernel_rfl) (by simp) ?_
          refine AllReady.cons rfl (fun K hK => ?_) ?_
          · refine step_appI (by rfl) (.tmp 14) (.tmp 17) (by rfl) (by rfl) (by rfl) hr ?_
            refine hK _ _ ?_; clear hK K
            simp only [Act.put, List.setIfInBounds_toArray]
            refine wpAny_take (i := 9) (v := ?_) rfl (by kernel_rfl) (by kernel_rfl) (by kernel_rfl) (fun _ _ _ h => h) (Or.inl ⟨by rfl, ?_⟩) ?_
            rotate_left 1
            · intro w; go_simp; try with_reducible rfl
            refine wpAny_take (i := 10) (v := ?_) rfl (by kernel_rfl) (by kernel_rfl) (by kernel_rfl) (fun _ _ _ h => h) (Or.inl ⟨by rfl, ?_⟩) ?_
            rotate_left 1
            · intro w; go_simp; try with_reducible rfl
            refine wpAny_ready (rs := [11]) (by kernel_rfl) (by simp) ?_
            refine AllReady.cons rfl (fun K hK => ?_) ?_
            · go_simp
              refine hK _ _ ?_; clear hK K
              refine wpAny_done (by kernel_rfl) ?_ _
              clear hr c2 c2Y g2 gf
              go_wp2_with fail
              go_end0
              refine ⟨⟨_, rfl⟩, _, ⟨_, _, _, HF.out.1, ?_, rfl⟩, HF.out.2⟩
              simp
            exact AllReady.nil
          exact AllReady.nil
        exact AllReady.nil
      refine AllReady.cons rfl (fun K hK => ?_) ?_
      · go_simp
        refine hK _ _ ?_; clear hK K
        refine wpAny_ready (rs := [4]) (by kernel_rfl) (by simp) ?_
        refine AllReady.cons rfl (fun K hK => ?_) ?_
        · go_simp
          refine hK _ _ ?_; clear hK K
          refine wpAny_ready (rs := [8]) (by kernel_rfl) (by simp) ?_
          refine AllReady.cons rfl (fun K hK => ?_) ?_
          · refine step_appI (by rfl) (.tmp 14) (.tmp 17) (by rfl) (by rfl) (by rfl) hr ?_
            refine hK _ _ ?_; clear hK K
            simp only [Act.put, List.setIfInBounds_toArray]
            refine wpAny_take (i := 9) (v := ?_) rfl (by kernel_rfl) (by kernel_rfl) (by kernel_rfl) (fun _ _ _ h => h) (Or.inl ⟨by rfl, ?_⟩) ?_
            rotate_left 1
            · intro w; go_simp; try with_reducible rfl
            refine wpAny_take (i := 10) (v := ?_) rfl (by kernel_rfl) (by kernel_rfl) (by kernel_rfl) (fun _ _ _ h => h) (Or.inl ⟨by rfl, ?_⟩) ?_
            rotate_left 1
            · intro w; go_simp; try with_reducible rfl
            refine wpAny_ready (rs := [11]) (by kernel_rfl) (by simp) ?_
            refine AllReady.cons rfl (fun K hK => ?_) ?_
            · go_simp
              refine hK _ _ ?_; clear hK K
              refine wpAny_done (by kernel_rfl) ?_ _
              clear hr c2 c2Y g2 gf
              go_wp2_with fail
              go_end0
              refine ⟨⟨_, rfl⟩, _, ⟨_, _, _, HF.out.1, ?_, rfl⟩, HF.out.2⟩
              simp
            exact AllReady.nil
          exact AllReady.nil
        exact AllReady.nil
      exact AllReady.nil
    exact AllReady.nil
end Go.Proofs.Ytnclfopdgilgaaa
