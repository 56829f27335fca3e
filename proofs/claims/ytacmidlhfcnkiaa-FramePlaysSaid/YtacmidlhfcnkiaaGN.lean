/- Layer 14 (package frame): Catch; Pop and Top in one word each. Condition: the block is frames (Fr). -/
import Derived.Test.YtacmidlhfcnkiaaGM
namespace Go.Proofs.Ytacmidlhfcnkiaa
open Go.RowKit
set_option linter.unusedVariables false

theorem top5at {w : World} {p : Nat} {T : List Nat} {L : List Fm} (h : Fr TP w p T L) : Calls Try.prog 40 #[Pt p, .slice (some ⟨w.heap.size + 1, 0, none⟩) 1 1] ((w.alloc (.cells zC TF)).alloc (.cells #[.int .i64 5] 3)) fun e w' => e = .returned (.int .i64 (topI [5] L)) ∧ Mod [] (w.alloc (.cells zC TF)) w' := by
  obtain ⟨v, O, hv, rfl, rfl, _⟩ := h.far (al_mod w (.cells zC TF))
  have := top5 hv
  rw [size_allocI] at this
  exact this
set_option maxHeartbeats 2000000 in
theorem catch_no {w : World} {p : Nat} {T : List Nat} {L : List Fm} (h : Fr TP w p T L) (hn : ∀ q ∈ L, isCatch q = false) : Calls Try.prog 26 #[Pt p] w fun e w' => e = .returned (.tuple #[.agg zC, .bool false]) ∧ Mod [] w w' := by
  have H1 := Lib.hid (top5at h)
  rw [topI_no (by rw [kinds_catch]; exact hn)] at H1
  have HM := Lib.hid (al_mod w (.cells zC TF))
  clear h hn
  go_enter Try.func26, Try.ntmps26
  go_wp2_with fail
  refine (H1.out).mono ?_
  rintro e w1 ⟨rfl, hm⟩
  have e0 := box_of hm
  obtain ⟨d0, d1, d2, d3, d4, d5, g0, g1, g2, g3, g4, g5⟩ := six_at e0
  obtain ⟨z1, z2⟩ := box_zero e0
  have HE := Lib.hid (And.intro z1 ((HM.out.trans hm).far1 z2 (Nat.le_refl _)))
  clear e0 hm z1 z2
  go_wp2_with fail
  exact bodyPost_ret (res_fr2 Try.results26 rfl HE.out.1) rfl ⟨rfl, HE.out.2⟩
set_option maxHeartbeats 4000000 in
theorem catch_yes {w : World} {p : Nat} {T : List Nat} {A B : List Fm} {q : Fm} (h : Fr TP w p T (A ++ q :: B)) (hq : q.k = 5) (hB : ∀ b ∈ B, isCatch b = false) : Calls Try.prog 26 #[Pt p] w (Gone TP w p T q (.bool true) A) := by
  have H1 := Lib.hid (top5at h)
  rw [topI_is (by rw [kinds_catch]; simp [isCatch, hq]) (by rw [kinds_catch]; exact hB)] at H1
  have mA := al_mod w (.cells zC TF)
  have hfew : (A.length : Int) ≤ 128 := by have := h.few; simp at this; omega
  have hcut : cutL ((A.length : Int) + 1) (A ++ q :: B) = A ++ [q] := by
    unfold cutL
    rw [show ((A.length : Int) + 1).toNat = A.length + 1 by omega, show A ++ q :: B = (A ++ [q]) ++ B by simp, List.take_left' (by simp)]
  have H2 := Lib.hid (fun W (m : Mod [] (w.alloc (.cells zC TF)) W) => cut_calls (h.far (mA.trans m)) ((A.length : Int) + 1))
  rw [hcut] at H2
  have HM := Lib.hid (And.intro h mA)
  obtain ⟨m, hm⟩ : ∃ m, m = A.length := ⟨_, rfl⟩
  rw [← hm] at H1 H2 hfew
  have hm0 : ¬ (m : Int) < 0 := by omega
  obtain ⟨k, a, b, x, y, l⟩ := q
  dsimp only at hq
  subst hq
  clear h hB hcut hm mA
  go_enter Try.func26, Try.ntmps26
  go_wp2_with fail
  refine (H1.out).mono ?_
  rintro e w1 ⟨rfl, hm⟩
  have e1 := box_of hm
  have H2' := Lib.hid (H2.out w1 hm)
  have K1 := Lib.hid (And.intro e1 hm)
  clear e1 hm H1 H2
  go_wp2_with fail
  refine (H2'.out).mono ?_
  rintro e w3 ⟨⟨r0, rfl⟩, T3, hF, hT⟩
  have H3 := Lib.hid (pop_right hF)
  have K2 := Lib.hid (And.intro hF hT)
  unfold Gone frV at H3
  dsimp only at H3
  clear hF hT H2'
  go_wp2_with fail
  refine (H3.out).mono ?_
  rintro e w4 ⟨s', rfl, hlc, T4, hF4, hT4, hs4⟩
  obtain ⟨A', c', rfl, _⟩ := hlc.ls
  obtain ⟨hF, hT⟩ := K2.out
  obtain ⟨e1, hm⟩ := K1.out
  have hB0 : w.heap.size ∉ T := HM.out.1.above (Nat.le_refl _)
  have hsz1 : w.heap.size < w1.heap.size := (Array.getElem?_eq_some_iff.1 e1).1
  have hB3 : w.heap.size ∉ T3 := fun hx => (hT.2 _ hx).elim hB0 fun hl => by omega
  have e3 := (hT.1.block _ hsz1 hB0).trans e1
  have hsz3 : w.heap.size < w3.heap.size := (Array.getElem?_eq_some_iff.1 e3).1
  have e4 := (hT4.1.block _ hsz3 hB3).trans e3
  have hsz4 : w.heap.size < w4.heap.size := (Array.getElem?_eq_some_iff.1 e4).1
  have m5 := al_mod w4 (.cells (cellsF ⟨5, a, b, x, y, l⟩ (.slice A' l.length c')) TF)
  have e5 := (m5.block _ hsz4 (by simp)).trans e4
  have b5 := (MapKept.heap_alloc w4 (.cells (cellsF ⟨5, a, b, x, y, l⟩ (.slice A' l.length c')) TF)).1
  obtain ⟨c0, c1, c2, c3, c4, c5, f0, f1, f2, f3, f4, f5⟩ := six_at b5
  obtain ⟨d0, d1, d2, d3, d4, d5, g0, g1, g2, g3, g4, g5⟩ := six_at e5
  obtain ⟨z1, z2⟩ := six_set (v0 := .int .i64 5) (v1 := .int .i64 a) (v2 := .int .i64 b) (v3 := .int .i64 x) (v4 := .int .i64 y) (v5 := .slice A' l.length c') e5
  have hB4 : w.heap.size ∉ T4 := fun hx => (hT4.2 _ hx).elim hB3 fun hl => by omega
  have hg : ∀ g, (Value.slice A' l.length c').ownBlock = some g → (g ∈ T ∨ w.heap.size + 1 ≤ g) ∧ g ∉ T4 := fun g hg => by
    have h1 := hs4 g hg
    refine ⟨?_, h1.2⟩
    rcases h1.1 with h2 | h2
    · rcases hT.2 g h2 with h3 | h3
      · exact Or.inl h3
      · exact Or.inr (by omega)
    · exact Or.inr (by omega)
  have hlc5 := (hlc.far m5).mod z2 (fun g hg' hx => by
    have hx' : g = w.heap.size := by simpa using hx
    subst hx'
    rcases (hg _ hg').1 with h | h
    · exact hB0 h
    · omega)
  have hu : Turn T T4 w (sixSet (w4.alloc (.cells (cellsF ⟨5, a, b, x, y, l⟩ (.slice A' l.length c')) TF)) w.heap.size (.int .i64 5) (.int .i64 a) (.int .i64 b) (.int .i64 x) (.int .i64 y) (.slice A' l.length c')) := by
    have h1 := ((hT.trans hT4).far m5).ahead (HM.out.2.trans hm)
    exact ⟨h1.1.then z2 fun u hu => Or.inr (by rw [List.mem_singleton.1 hu]; exact Nat.le_refl _), h1.2⟩
  have HE := Lib.hid (And.intro z1 (And.intro hlc5 (And.intro ((hF4.far m5).mod z2 (fun u hu => by simp; rintro rfl; exact hB4 hu)) (And.intro hu hg))))
  have hne : w.heap.size ≠ w4.heap.size := by omega
  dsimp only at c0 c1 c2 c3 c4 c5 f0 f1 f2 f3 f4 f5 d0 d1 d2 d3 d4 d5 g0 g1 g2 g3 g4 g5 HE
  clear hF hT e1 hm hB0 hsz1 hB3 e3 hsz3 e4 hsz4 m5 e5 b5 z1 z2 hB4 hg hlc5 hu hlc hF4 hT4 hs4 K1 K2 H3
  go_wp2_with fail
  obtain ⟨z1, hlc5, hF5, hu, hg⟩ := HE.out
  exact bodyPost_ret (res_fr2 Try.results26 rfl z1) rfl ⟨_, rfl, hlc5, T4, hF5, hu, fun g hg' => ⟨(hg g hg').1.imp id fun h => by omega, (hg g hg').2⟩⟩
/-- Pop, whatever is there: the frame that it tells, and what is left. -/
theorem pop_calls {w : World} {p : Nat} {T : List Nat} {L : List Fm} (h : Fr TP w p T L) (k : Int) : Calls Try.prog 27 #[Pt p, .int .i64 k] w (Gone TP w p T ((topK k L).getD zF) (.int .i64 (errK k (-6) L)) (popL k L)) := by
  rcases snoc_cases L with rfl | ⟨A, q, rfl⟩
  · exact pop_nil h k
  · by_cases hk : q.k = k
    · subst hk
      have := pop_right h
      rw [topK_snoc, if_pos rfl, (topK_some rfl).1, (topK_some rfl).2]
      exact this
    · have := pop_wrong h k hk
      have e : topK k (A ++ [q]) = none := by rw [topK_snoc, if_neg hk]
      rw [e, (topK_no e).1, (topK_no e).2]
      exact this
/-- Top, whatever is there. -/
theorem top_calls {w : World} {p : Nat} {T : List Nat} {L : List Fm} (h : Fr TP w p T L) : Calls Try.prog 15 #[Pt p] w (Tops w (topV L) (.bool L.getLast?.isSome)) := by
  rcases snoc_cases L with rfl | ⟨A, q, rfl⟩
  · exact (top_nil h).mono fun e w' ⟨h1, h2⟩ => ⟨.slice none 0 0, h1, ⟨Lc.nil _, fun g hg => by cases hg⟩, h2⟩
  · have := top_snoc h
    rw [topV_snoc]
    simpa using this
theorem stepEnd_snoc (s : Int) (A : List Fm) (q : Fm) : stepEnd s (A ++ [q]) = (decide (q.k = 3) && endsF (wrap64 (q.x - q.y)) s) ∧ stepL s (A ++ [q]) = if q.k = 3 then (if endsF (wrap64 (q.x - q.y)) s then A else A ++ [{ q with x := wrap64 (q.x + s) }]) else A ++ [q] := by
  unfold stepEnd stepL
  rw [topK_snoc]
  by_cases h : q.k = 3
  · rw [if_pos h, if_pos h]
    simp [h]
  · rw [if_neg h, if_neg h]
    simp [h]
/-- Step, whatever is there. -/
theorem step_calls {w : World} {p : Nat} {T : List Nat} {L : List Fm} (h : Fr TP w p T L) (s : Int) : Calls Try.prog 23 #[Pt p, .int .i64 s] w (Stepped TP w p T (stepEnd s L) (errK 3 (-26) L) (stepL s L)) := by
  rcases snoc_cases L with rfl | ⟨A, q, rfl⟩
  · exact step_nil h s
  · rw [(stepEnd_snoc s A q).1, (stepEnd_snoc s A q).2]
    unfold errK
    rw [topK_snoc]
    by_cases hk : q.k = 3
    · rw [if_pos hk, if_pos hk]
      cases he : endsF (wrap64 (q.x - q.y)) s with
      | true =>
        have := step_over h hk s he
        simpa [hk] using this
      | false =>
        have := step_on h hk s he
        simpa [hk] using this
    · rw [if_neg hk, if_neg hk]
      have := step_wrong h hk s
      simpa [hk] using this
end Go.Proofs.Ytacmidlhfcnkiaa
