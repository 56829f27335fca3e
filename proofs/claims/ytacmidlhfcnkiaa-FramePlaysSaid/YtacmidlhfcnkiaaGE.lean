/- Layer 14 (package frame): New, Depth, Push. Condition: the block is frames (Fr). -/
import Derived.Test.YtacmidlhfcnkiaaGD
namespace Go.Proofs.Ytacmidlhfcnkiaa
open Go.RowKit
set_option linter.unusedVariables false

/-- Block p of w is the frames L (of the type tB), its blocks T. -/
def Fr (tB : TypeId) (w : World) (p : Nat) (T : List Nat) (L : List Fm) : Prop := ∃ v O, Fv tB w p v O ∧ L = O.map Prod.fst ∧ T = Sf p v O ∧ ∀ q ∈ L, q.l.length ≤ 1000
abbrev TP : TypeId := 63
abbrev TR : TypeId := 29
theorem Fr.mod {tB : TypeId} {w w' : World} {p : Nat} {T S : List Nat} {L : List Fm} (h : Fr tB w p T L) (m : Mod S w w') (hS : ∀ x ∈ T, x ∉ S) : Fr tB w' p T L := by
  obtain ⟨v, O, h, rfl, rfl, hl⟩ := h
  exact ⟨v, O, h.mod m hS, rfl, rfl, hl⟩
theorem Fr.far {tB : TypeId} {w w' : World} {p : Nat} {T : List Nat} {L : List Fm} (h : Fr tB w p T L) (m : Mod [] w w') : Fr tB w' p T L := h.mod m (by simp)
theorem Fr.lt {tB : TypeId} {w : World} {p : Nat} {T : List Nat} {L : List Fm} (h : Fr tB w p T L) : ∀ x ∈ T, x < w.heap.size := by
  obtain ⟨v, O, h, rfl, rfl, _⟩ := h
  exact h.lt
theorem Fr.few {tB : TypeId} {w : World} {p : Nat} {T : List Nat} {L : List Fm} (h : Fr tB w p T L) : L.length ≤ 128 := by
  obtain ⟨v, O, h, rfl, rfl, _⟩ := h
  simpa using h.few
theorem Fr.small {tB : TypeId} {w : World} {p : Nat} {T : List Nat} {L : List Fm} (h : Fr tB w p T L) : ∀ q ∈ L, q.l.length ≤ 1000 := by
  obtain ⟨v, O, h, rfl, rfl, hl⟩ := h
  exact hl
theorem fr_empty (tB : TypeId) (w : World) : Fr tB (w.alloc (.cells #[.slice none 0 0] tB)) w.heap.size [w.heap.size] [] := by
  have hb := (MapKept.heap_alloc w (.cells #[.slice none 0 0] tB)).1
  exact ⟨.slice none 0 0, [], ⟨hb, World.ownsRow_nil _ _ _ _, by simp, by simp [Sf, lbs, Value.ownBlock], by simp⟩, rfl, rfl, by simp⟩
/-- What a call gives that turns the frames: an answer, the frames that are then. -/
def Gives (tB : TypeId) (w : World) (p : Nat) (T : List Nat) (r : Value) (L : List Fm) (e : Ending) (w' : World) : Prop := e = .returned r ∧ ∃ T', Fr tB w' p T' L ∧ Turn T T' w w'
theorem new_calls (w : World) : Calls Try.prog 11 #[] w fun e w' => ∃ p, e = .returned (Pt p) ∧ Fr TP w' p [p] [] ∧ Mod [] w w' ∧ w.heap.size ≤ p := by
  go_enter Try.func11, Try.ntmps11
  go_wp2
  go_ret
  exact ⟨w.heap.size, rfl, fr_empty TP w, al_mod _ _, Nat.le_refl _⟩
theorem depth_calls {w : World} {p : Nat} {T : List Nat} {L : List Fm} (h : Fr TP w p T L) (n : Nat) (hn : L.length = n) : Calls Try.prog 14 #[Pt p] w fun e w' => e = .returned (.int .i64 (n : Int)) ∧ w = w' := by
  obtain ⟨v, O, h, rfl, rfl, _⟩ := h
  rw [List.length_map] at hn
  obtain ⟨A0, cap0, rfl, _⟩ := h.slice
  have k0 := h.c0
  rw [hn] at k0
  clear h hn
  go_enter Try.func14, Try.ntmps14
  go_wp2_with fail
  go_ret
  exact ⟨rfl, rfl⟩
theorem depth_none (w : World) : Calls Try.prog 14 #[.pointer none] w fun e w' => e = .returned (.int .i64 0) ∧ w = w' := by
  go_enter Try.func14, Try.ntmps14
  go_wp2
  go_ret
  exact ⟨rfl, rfl⟩
theorem push_none (w : World) (q : Fm) (s : Value) : Calls Try.prog 21 #[.pointer none, frV q s] w fun e w' => e = .returned (.int .i64 2) ∧ Mod [] w w' := by
  have mA := al_mod w (.cells (cellsF q s) TF)
  unfold frV
  go_enter Try.func21, Try.ntmps21
  go_wp2_with fail
  go_ret
  exact ⟨rfl, mA⟩
set_option maxHeartbeats 8000000 in
theorem push_calls {w : World} {p : Nat} {T : List Nat} {L : List Fm} (h : Fr TP w p T L) {q : Fm} {s : Value} (hs : Ls w s q.l) (hb : q.l.length ≤ 1000) : Calls Try.prog 21 #[Pt p, frV q s] w (Gives TP w p T (.int .i64 (pushE L)) (pushL L q)) := by
  obtain ⟨v, O, h, rfl, rfl, hsm⟩ := h
  have HS := Lib.hid (fun r (hr : r ∈ O.map Prod.fst ++ [q]) => (List.mem_append.1 hr).elim (hsm r) (fun hr => by rw [List.mem_singleton.1 hr]; exact hb) : ∀ r ∈ O.map Prod.fst ++ [q], r.l.length ≤ 1000)
  obtain ⟨A0, cap0, rfl, _⟩ := h.slice
  obtain ⟨n, hn⟩ : ∃ n, n = O.length := ⟨_, rfl⟩
  rw [← hn] at h ⊢
  have mA := al_mod w (.cells (cellsF q s) TF)
  have hA := h.far mA
  have c0 := hA.c0
  unfold Gives
  by_cases hf : 128 ≤ O.length
  · have e1 : pushE (O.map Prod.fst) = -5 := by unfold pushE; rw [if_pos (by simpa using hf)]
    have e2 : pushL (O.map Prod.fst) q = O.map Prod.fst := by unfold pushL; rw [if_pos (by simpa using hf)]
    have hfI : (128 : Int) ≤ (n : Int) := by omega
    have HN := Lib.hid (And.intro hA mA)
    rw [e1, e2]
    clear h hs hb hn hA mA e1 e2 hf hsm
    unfold frV
    go_enter Try.func21, Try.ntmps21
    go_wp2_with fail
    go_ret
    exact ⟨rfl, _, ⟨_, _, HN.out.1, rfl, rfl, fun r hr => HS.out r (List.mem_append.2 (Or.inl hr))⟩, (Turn.refl _ _).far HN.out.2⟩
  · have e1 : pushE (O.map Prod.fst) = 0 := by unfold pushE; rw [if_neg (by simpa using hf)]
    have e2 : ∀ s' : Value, pushL (O.map Prod.fst) q = (O ++ [(q, s')]).map Prod.fst := fun s' => by unfold pushL; rw [if_neg (by simpa using hf)]; simp
    have hfI : ¬ (128 : Int) ≤ (n : Int) := by omega
    obtain ⟨W1, hW1⟩ : ∃ W1, W1 = w.alloc (.cells (cellsF q s) TF) := ⟨_, rfl⟩
    rw [← hW1] at mA hA c0
    obtain ⟨x0, x1, x2, x3, x4, x5, _⟩ := six_at (w := W1) (b := w.heap.size) (by rw [hW1]; exact (MapKept.heap_alloc w _).1)
    have md : Mod [] W1 W1.drew := (Mod.refl [] W1).drew
    have H1 := Lib.hid (copied_calls (hs.far (mA.trans md)) (by omega))
    have KP := Lib.hid (fun (W : World) (hm : Mod [] W1.drew W) (q' : Fm) (s' : Value) => (And.intro ((hA.far (md.trans hm)).c0) ((hA.far ((md.trans hm).trans (al_mod W (.cells (cellsF q' s') TF)))).c0) : W.cell? ⟨p, 0, none⟩ = some (.slice A0 n cap0) ∧ (W.alloc (.cells (cellsF q' s') TF)).cell? ⟨p, 0, none⟩ = some (.slice A0 n cap0)))
    have PT := Lib.hid (fun (W : World) (hm : Mod [] W1.drew W) (s' : Value) (hs' : New W1.drew W s' q.l) => (by
      obtain ⟨A, c, w', r1, r2, r3, r4⟩ := h.app ((mA.trans md).trans hm) (q := q) (s' := s') ⟨hs'.1, fun g hg => Nat.le_trans (mA.trans md).size (hs'.2 g hg)⟩ (by omega) 27
      exact ⟨A, c, w', r1, r2, r3, r4⟩ : ∃ A c w', (appF 27 #[.slice A0 n cap0, .slice (some ⟨W.heap.size, 0, none⟩) 1 1]).run Try.prog (W.alloc (.cells (cellsF q s') TF)) = .ok (.slice A (n + 1) c) w' ∧ w'.cell? ⟨p, 0, none⟩ = some (.slice A0 n cap0) ∧ w'.frozen? ⟨p, 0, none⟩ = false ∧
        RowKit.Hid (Fv TP (w'.setCell ⟨p, 0, none⟩ (.slice A (n + 1) c)) p (.slice A (n + 1) c) (O ++ [(q, s')]) ∧ Turn (Sf p (.slice A0 n cap0) O) (Sf p (.slice A (n + 1) c) (O ++ [(q, s')])) w (w'.setCell ⟨p, 0, none⟩ (.slice A (n + 1) c)))))
    have E2 := Lib.hid e2
    have c0' : (w.alloc (.cells #[.int .i64 q.k, .int .i64 q.a, .int .i64 q.b, .int .i64 q.x, .int .i64 q.y, s] TF)).cell? ⟨p, 0, none⟩ = some (.slice A0 n cap0) := by rw [← hW1]; exact c0
    have HW := Lib.hid hW1
    rw [e1]
    clear h hs hb hn hA mA e1 e2 hf hsm md hW1
    unfold frV at H1 ⊢
    go_enter Try.func21, Try.ntmps21
    go_upto_region 5 with fail
    have hW1 := HW.out
    dsimp only [cellsF] at hW1
    rw [← hW1]
    clear hW1 HW c0'
    refine wp_region_any (by kernel_rfl) ?_
    try (change wpAny _ _ _ _ _ _ _ (World.drew _))
    refine wpAny_take (i := 0) (v := ?_) rfl (by kernel_rfl) (by kernel_rfl) (by kernel_rfl) (fun _ _ _ h => h) (Or.inl ⟨by rfl, ?_⟩) ?_
    rotate_left 1
    · intro w; go_simp; try with_reducible rfl
    refine wpAny_take (i := 1) (v := ?_) rfl (by kernel_rfl) (by kernel_rfl) (by kernel_rfl) (fun _ _ _ h => h) (Or.inl ⟨by rfl, ?_⟩) ?_
    rotate_left 1
    · intro w; go_simp; try with_reducible rfl
    refine wpAny_take (i := 2) (v := ?_) rfl (by kernel_rfl) (by kernel_rfl) (by kernel_rfl) (fun _ _ _ h => h) (Or.inl ⟨by rfl, ?_⟩) ?_
    rotate_left 1
    · intro w; go_simp; try with_reducible rfl
    refine wpAny_take (i := 3) (v := ?_) rfl (by kernel_rfl) (by kernel_rfl) (by kernel_rfl) (fun _ _ _ h => h) (Or.inl ⟨by rfl, ?_⟩) ?_
    rotate_left 1
    · intro w; go_simp; try with_reducible rfl
    refine wpAny_ready (rs := [4, 5]) (by kernel_rfl) (by simp) ?_
    refine AllReady.cons rfl (fun K hK => ?_) ?_
    · go_simp
      refine hK _ _ ?_; clear hK K
      refine wpAny_ready (rs := [5]) (by kernel_rfl) (by simp) ?_
      refine AllReady.cons rfl (fun K hK => ?_) ?_
      · go_simp
        refine hK _ _ ?_; clear hK K
        refine wpAny_ready (rs := [6]) (by kernel_rfl) (by simp) ?_
        refine AllReady.cons rfl (fun K hK => ?_) ?_
        · go_simp; refine (H1.out).mono ?_; rintro e w9 ⟨s', rfl, hn, hm⟩; obtain ⟨A5, c5, w5, e5, f5, g5, F5⟩ := PT.out w9 hm s' hn; obtain ⟨p9, pa⟩ := KP.out w9 hm q s'; obtain ⟨A9, c9, rfl, _⟩ := hn.1.ls; clear hn hm
          refine hK _ _ ?_; clear hK K
          refine wpAny_ready (rs := [7]) (by kernel_rfl) (by simp) ?_
          refine AllReady.cons rfl (fun K hK => ?_) ?_
          · go_simp
            refine hK _ _ ?_; clear hK K
            refine wpAny_ready (rs := [8]) (by kernel_rfl) (by simp) ?_
            refine AllReady.cons rfl (fun K hK => ?_) ?_
            · refine step_appF (by rfl) (.tmp 19) (.tmp 22) (by rfl) (by rfl) (by rfl) e5 ?_
              refine hK _ _ ?_; clear hK K
              simp only [Act.put, List.setIfInBounds_toArray]
              refine wpAny_take (i := 9) (v := ?_) rfl (by kernel_rfl) (by kernel_rfl) (by kernel_rfl) (fun _ _ _ h => h) (Or.inl ⟨by rfl, ?_⟩) ?_
              rotate_left 1
              · intro w; go_simp; try with_reducible rfl
              refine wpAny_take (i := 10) (v := ?_) rfl (by kernel_rfl) (by kernel_rfl) (by kernel_rfl) (fun _ _ _ h => h) (Or.inl ⟨by rfl, ?_⟩) ?_
              rotate_left 1
              · intro w; go_simp; try with_reducible rfl
              refine wpAny_ready (rs := [11]) (by kernel_rfl) (by simp) ?_
              refine AllReady.cons rfl (fun K hK => ?_) ?_
              · go_simp
                refine hK _ _ ?_; clear hK K
                refine wpAny_done (by kernel_rfl) ?_ _
                clear e5 f5 g5 p9 pa
                go_wp2_with fail
                go_ret
                rw [E2.out]
                exact ⟨rfl, _, ⟨_, _, F5.out.1, rfl, rfl, by simpa using HS.out⟩, F5.out.2⟩
              exact AllReady.nil
            exact AllReady.nil
          exact AllReady.nil
        exact AllReady.nil
      exact AllReady.nil
    refine AllReady.cons rfl (fun K hK => ?_) ?_
    · go_simp
      refine hK _ _ ?_; clear hK K
      refine wpAny_ready (rs := [4, 6]) (by kernel_rfl) (by simp) ?_
      refine AllReady.cons rfl (fun K hK => ?_) ?_
      · go_simp
        refine hK _ _ ?_; clear hK K
        refine wpAny_ready (rs := [6]) (by kernel_rfl) (by simp) ?_
        refine AllReady.cons rfl (fun K hK => ?_) ?_
        · go_simp; refine (H1.out).mono ?_; rintro e w9 ⟨s', rfl, hn, hm⟩; obtain ⟨A5, c5, w5, e5, f5, g5, F5⟩ := PT.out w9 hm s' hn; obtain ⟨p9, pa⟩ := KP.out w9 hm q s'; obtain ⟨A9, c9, rfl, _⟩ := hn.1.ls; clear hn hm
          refine hK _ _ ?_; clear hK K
          refine wpAny_ready (rs := [7]) (by kernel_rfl) (by simp) ?_
          refine AllReady.cons rfl (fun K hK => ?_) ?_
          · go_simp
            refine hK _ _ ?_; clear hK K
            refine wpAny_ready (rs := [8]) (by kernel_rfl) (by simp) ?_
            refine AllReady.cons rfl (fun K hK => ?_) ?_
            · refine step_appF (by rfl) (.tmp 19) (.tmp 22) (by rfl) (by rfl) (by rfl) e5 ?_
              refine hK _ _ ?_; clear hK K
              simp only [Act.put, List.setIfInBounds_toArray]
              refine wpAny_take (i := 9) (v := ?_) rfl (by kernel_rfl) (by kernel_rfl) (by kernel_rfl) (fun _ _ _ h => h) (Or.inl ⟨by rfl, ?_⟩) ?_
              rotate_left 1
              · intro w; go_simp; try with_reducible rfl
              refine wpAny_take (i := 10) (v := ?_) rfl (by kernel_rfl) (by kernel_rfl) (by kernel_rfl) (fun _ _ _ h => h) (Or.inl ⟨by rfl, ?_⟩) ?_
              rotate_left 1
              · intro w; go_simp; try with_reducible rfl
              refine wpAny_ready (rs := [11]) (by kernel_rfl) (by simp) ?_
              refine AllReady.cons rfl (fun K hK => ?_) ?_
              · go_simp
                refine hK _ _ ?_; clear hK K
                refine wpAny_done (by kernel_rfl) ?_ _
                clear e5 f5 g5 p9 pa
                go_wp2_with fail
                go_ret
                rw [E2.out]
                exact ⟨rfl, _, ⟨_, _, F5.out.1, rfl, rfl, by simpa using HS.out⟩, F5.out.2⟩
              exact AllReady.nil
            exact AllReady.nil
          exact AllReady.nil
        exact AllReady.nil
      refine AllReady.cons rfl (fun K hK => ?_) ?_
      · go_simp; refine (H1.out).mono ?_; rintro e w9 ⟨s', rfl, hn, hm⟩; obtain ⟨A5, c5, w5, e5, f5, g5, F5⟩ := PT.out w9 hm s' hn; obtain ⟨p9, pa⟩ := KP.out w9 hm q s'; obtain ⟨A9, c9, rfl, _⟩ := hn.1.ls; clear hn hm
        refine hK _ _ ?_; clear hK K
        refine wpAny_ready (rs := [4, 7]) (by kernel_rfl) (by simp) ?_
        refine AllReady.cons rfl (fun K hK => ?_) ?_
        · go_simp
          refine hK _ _ ?_; clear hK K
          refine wpAny_ready (rs := [7]) (by kernel_rfl) (by simp) ?_
          refine AllReady.cons rfl (fun K hK => ?_) ?_
          · go_simp
            refine hK _ _ ?_; clear hK K
            refine wpAny_ready (rs := [8]) (by kernel_rfl) (by simp) ?_
            refine AllReady.cons rfl (fun K hK => ?_) ?_
            · refine step_appF (by rfl) (.tmp 19) (.tmp 22) (by rfl) (by rfl) (by rfl) e5 ?_
              refine hK _ _ ?_; clear hK K
              simp only [Act.put, List.setIfInBounds_toArray]
              refine wpAny_take (i := 9) (v := ?_) rfl (by kernel_rfl) (by kernel_rfl) (by kernel_rfl) (fun _ _ _ h => h) (Or.inl ⟨by rfl, ?_⟩) ?_
              rotate_left 1
              · intro w; go_simp; try with_reducible rfl
              refine wpAny_take (i := 10) (v := ?_) rfl (by kernel_rfl) (by kernel_rfl) (by kernel_rfl) (fun _ _ _ h => h) (Or.inl ⟨by rfl, ?_⟩) ?_
              rotate_left 1
              · intro w; go_simp; try with_reducible rfl
              refine wpAny_ready (rs := [11]) (by kernel_rfl) (by simp) ?_
              refine AllReady.cons rfl (fun K hK => ?_) ?_
              · go_simp
                refine hK _ _ ?_; clear hK K
                refine wpAny_done (by kernel_rfl) ?_ _
                clear e5 f5 g5 p9 pa
                go_wp2_with fail
                go_ret
                rw [E2.out]
                exact ⟨rfl, _, ⟨_, _, F5.out.1, rfl, rfl, by simpa using HS.out⟩, F5.out.2⟩
              exact AllReady.nil
            exact AllReady.nil
          exact AllReady.nil
        refine AllReady.cons rfl (fun K hK => ?_) ?_
        · go_simp
          refine hK _ _ ?_; clear hK K
          refine wpAny_ready (rs := [4]) (by kernel_rfl) (by simp) ?_
          refine AllReady.cons rfl (fun K hK => ?_) ?_
          · go_simp
            refine hK _ _ ?_; clear hK K
            refine wpAny_ready (rs := [8]) (by kernel_rfl) (by simp) ?_
            refine AllReady.cons rfl (fun K hK => ?_) ?_
            · refine step_appF (by rfl) (.tmp 19) (.tmp 22) (by rfl) (by rfl) (by rfl) e5 ?_
              refine hK _ _ ?_; clear hK K
              simp only [Act.put, List.setIfInBounds_toArray]
              refine wpAny_take (i := 9) (v := ?_) rfl (by kernel_rfl) (by kernel_rfl) (by kernel_rfl) (fun _ _ _ h => h) (Or.inl ⟨by rfl, ?_⟩) ?_
              rotate_left 1
              · intro w; go_simp; try with_reducible rfl
              refine wpAny_take (i := 10) (v := ?_) rfl (by kernel_rfl) (by kernel_rfl) (by kernel_rfl) (fun _ _ _ h => h) (Or.inl ⟨by rfl, ?_⟩) ?_
              rotate_left 1
              · intro w; go_simp; try with_reducible rfl
              refine wpAny_ready (rs := [11]) (by kernel_rfl) (by simp) ?_
              refine AllReady.cons rfl (fun K hK => ?_) ?_
              · go_simp
                refine hK _ _ ?_; clear hK K
                refine wpAny_done (by kernel_rfl) ?_ _
                clear e5 f5 g5 p9 pa
                go_wp2_with fail
                go_ret
                rw [E2.out]
                exact ⟨rfl, _, ⟨_, _, F5.out.1, rfl, rfl, by simpa using HS.out⟩, F5.out.2⟩
              exact AllReady.nil
            exact AllReady.nil
          exact AllReady.nil
        exact AllReady.nil
      exact AllReady.nil
    exact AllReady.nil
end Go.Proofs.Ytacmidlhfcnkiaa
