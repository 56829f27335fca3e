/- Layer 14: an act on both frames (does), act by act: those that tell a frame. No condition. -/
import Derived.Test.YtacmidlhfcnkiaaHO
namespace Go.Proofs.Ytacmidlhfcnkiaa
open Go.RowKit
set_option linter.unusedVariables false

theorem topK_small {k : Int} {L : List Fm} (h : ∀ r ∈ L, r.l.length ≤ 1000) : ((topK k L).getD zF).l.length ≤ 1000 := by
  rcases snoc_cases L with rfl | ⟨A, q, rfl⟩
  · exact Nat.zero_le _
  · rw [topK_snoc]
    by_cases hk : q.k = k
    · rw [if_pos hk]
      exact h q (by simp)
    · rw [if_neg hk]
      exact Nat.zero_le _
theorem topV_small {L : List Fm} (h : ∀ r ∈ L, r.l.length ≤ 1000) : (topV L).l.length ≤ 1000 := by
  rcases snoc_cases L with rfl | ⟨A, q, rfl⟩
  · exact Nat.zero_le _
  · rw [topV_snoc]
    exact h q (by simp)
theorem caught_small {L : List Fm} (h : ∀ r ∈ L, r.l.length ≤ 1000) : ((caught L).getD zF).l.length ≤ 1000 := by
  rcases top_cases isCatch L with hn | ⟨A, r, B, rfl, hq, hB⟩
  · rw [(catch_none hn).2.2]
    exact Nat.zero_le _
  · rw [(catch_is (A := A) (q := r) (B := B) hq hB).2.2]
    exact h r (by simp)
set_option maxRecDepth 100000 in
set_option maxHeartbeats 16000000 in
theorem does_pop {w0 w : World} {p q : Nat} {L : List Fm} {D : List Nat} (h : Fp w0 w p q L L D) (u : Int) (hu : Int.tmod u 9 = 1) (f : Fm) (s : Value) (n x : Int) : Calls Try.prog 13 #[Pt p, Pt q, .agg (cellsY u f s n x)] w (Done w0 w p q D) := by
  obtain ⟨hF, bA, K0⟩ := act_in h u f s n x
  obtain ⟨c0, c1, c2, c3, c4, c5, c6, c7, c8⟩ := nine_at bA
  obtain ⟨k, hk⟩ : ∃ k, bits BinOp.and IntKind.i64 n 7 = k := ⟨_, rfl⟩
  have H1 := Lib.hid (hF.pop k)
  have HP := fun (W : World) (L2 : List Fm) (D2 : List Nat) (hW : Fp w0 W p q L2 L D2) => hW.rpop k
  have hsm := topK_small (k := k) h.smallP
  obtain ⟨t, ht⟩ : ∃ t, t = (topK k L).getD zF := ⟨_, rfl⟩
  obtain ⟨va, hva⟩ : ∃ va, va = errK k (-6) L := ⟨_, rfl⟩
  simp only [← ht, ← hva] at H1 HP hsm
  obtain ⟨tk, ta, tb, tx, ty, tl⟩ := t
  unfold Told frV at H1 HP
  dsimp only at H1 HP hsm
  have HPP := Lib.hid HP
  have HS := Lib.hid hsm
  have HF := Lib.hid (And.intro bA K0)
  have hsz : w.heap.size < (w.alloc (.cells (cellsY u f s n x) TA)).heap.size := by rw [size_allocI]; omega
  have HSZ := Lib.hid hsz
  clear h hF bA K0 HP ht hva hsm hsz
  go_enter Try.func13, Try.ntmps13
  go_wp2_with fail
  refine (H1.out).mono ?_
  rintro e w3 ⟨s1, rfl, hl1, hF3, hK3⟩
  obtain ⟨A1, n1, rfl, _⟩ := hl1.ls
  have mB := al_mod w3 (.cells (cellsF ⟨tk, ta, tb, tx, ty, tl⟩ (.slice A1 tl.length n1)) TF)
  have hszB : (w3.alloc (.cells (cellsF ⟨tk, ta, tb, tx, ty, tl⟩ (.slice A1 tl.length n1)) TF)).heap.size = w3.heap.size + 1 := size_allocI w3 _
  have b3 := box_kept HF.out.1 hK3 (by simp)
  have h3 := (Array.getElem?_eq_some_iff.1 b3).1
  have b3' := (mB.block _ h3 (by simp)).trans b3
  have hF4 := hF3.add mB (b := w3.heap.size) (Nat.le_refl _) (by omega)
  have b4 := (MapKept.heap_alloc w3 (.cells (cellsF ⟨tk, ta, tb, tx, ty, tl⟩ (.slice A1 tl.length n1)) TF)).1
  obtain ⟨d0, d1, d2, d3, d4, d5, d6, d7, d8⟩ := nine_at b3'
  have H2 := Lib.hid (HPP.out _ _ _ hF4)
  have kB := ((HF.out.2.trans hK3 (by have := HSZ.out; omega)).trans (Kp.far mB) (by omega))
  have HE := Lib.hid (And.intro (hl1.far mB) (And.intro b4 (And.intro kB h3)))
  have HZ := Lib.hid hszB
  clear hF3 hK3 b3 b3' hl1 mB hF4 b4 kB h3 hszB c0 c1 c2 c3 c4 c5 c6 c7 c8 H1 HPP
  dsimp only [cellsF] at d0 d1 d2 d3 d4 d5 d6 d7 d8 H2 HE HZ
  go_wp2_with fail
  refine (H2.out).mono ?_
  rintro e w5 ⟨s2, rfl, hl2, hF5, hK5⟩
  obtain ⟨A2, n2, rfl, _⟩ := hl2.ls
  have mC := al_mod w5 (.cells (cellsF ⟨tk, ta, tb, tx, ty, tl⟩ (.slice A2 tl.length n2)) TF)
  obtain ⟨g1, b4, kB, h3⟩ := HE.out
  have b5 := box_kept b4 hK5 (by simp)
  have h5 := (Array.getElem?_eq_some_iff.1 b5).1
  have b5' := (mC.block _ h5 (by simp)).trans b5
  have b6 := (MapKept.heap_alloc w5 (.cells (cellsF ⟨tk, ta, tb, tx, ty, tl⟩ (.slice A2 tl.length n2)) TF)).1
  have g1' := (g1.kp hK5 (fun g hg => by rw [List.mem_cons]; exact Or.inr (List.mem_append.2 (Or.inl (by rw [hg]; simp))))).far mC
  have g2' := hl2.far mC
  have H3 := Lib.hid (one_calls (q := ⟨tk, ta, tb, tx, ty, tl⟩) g1'.ls g2'.ls (by have := HS.out; dsimp only; omega))
  obtain ⟨x0, x1, x2, x3, x4, x5, _⟩ := six_at b5'
  obtain ⟨y0, y1, y2, y3, y4, y5, _⟩ := six_at b6
  have kC := kB.trans (hK5.less (D' := w.heap.size :: D) (fun b hb => by rw [List.mem_cons]; exact Or.inr (List.mem_append.2 (Or.inr hb)))) (by have := HZ.out; omega)
  have hne : w3.heap.size ≠ w5.heap.size := by omega
  have HY := Lib.hid (And.intro (hF5.far mC) (And.intro (kC.trans (Kp.far mC) (by omega)) (show w.heap.size ≤ (w5.alloc (.cells (cellsF ⟨tk, ta, tb, tx, ty, tl⟩ (.slice A2 tl.length n2)) TF)).heap.size by rw [size_allocI]; omega)))
  clear hF5 hK5 hl2 mC g1 b4 kB h3 b5 h5 b5' b6 g1' g2' kC d0 d1 d2 d3 d4 d5 d6 d7 d8 H2 HE HZ HSZ
  unfold frV at H3
  dsimp only [cellsF] at x0 x1 x2 x3 x4 x5 y0 y1 y2 y3 y4 y5 H3 HY
  go_wp2_with fail
  refine (H3.out).mono ?_
  rintro e w7 ⟨rfl, hm7⟩
  have HW := Lib.hid (And.intro (HY.out.1.far hm7) (HY.out.2.1.trans (Kp.far hm7) HY.out.2.2))
  clear hm7 H3 HY x0 x1 x2 x3 x4 x5 y0 y1 y2 y3 y4 y5
  go_wp2_with fail
  go_ret
  exact ⟨rfl, _, HW.out.1.less (fun b hb => by simp [hb]), HW.out.2.less (fun b hb => List.mem_cons_of_mem _ hb)⟩
set_option maxRecDepth 100000 in
set_option maxHeartbeats 16000000 in
theorem does_top {w0 w : World} {p q : Nat} {L : List Fm} {D : List Nat} (h : Fp w0 w p q L L D) (u : Int) (hu : Int.tmod u 9 = 2) (f : Fm) (s : Value) (n x : Int) : Calls Try.prog 13 #[Pt p, Pt q, .agg (cellsY u f s n x)] w (Done w0 w p q D) := by
  obtain ⟨hF, bA, K0⟩ := act_in h u f s n x
  obtain ⟨c0, c1, c2, c3, c4, c5, c6, c7, c8⟩ := nine_at bA
  have H1 := Lib.hid (hF.top)
  have HP := fun (W : World) (L2 : List Fm) (D2 : List Nat) (hW : Fp w0 W p q L2 L D2) => hW.rtop
  have hsm := topV_small h.smallP
  obtain ⟨t, ht⟩ : ∃ t, t = topV L := ⟨_, rfl⟩
  obtain ⟨va, hva⟩ : ∃ va, va = L.getLast?.isSome := ⟨_, rfl⟩
  simp only [← ht, ← hva] at H1 HP hsm
  obtain ⟨tk, ta, tb, tx, ty, tl⟩ := t
  unfold Told frV at H1 HP
  dsimp only at H1 HP hsm
  have HPP := Lib.hid HP
  have HS := Lib.hid hsm
  have HF := Lib.hid (And.intro bA K0)
  have hsz : w.heap.size < (w.alloc (.cells (cellsY u f s n x) TA)).heap.size := by rw [size_allocI]; omega
  have HSZ := Lib.hid hsz
  clear h hF bA K0 HP ht hva hsm hsz
  go_enter Try.func13, Try.ntmps13
  go_wp2_with fail
  refine (H1.out).mono ?_
  rintro e w3 ⟨s1, rfl, hl1, hF3, hK3⟩
  obtain ⟨A1, n1, rfl, _⟩ := hl1.ls
  have mB := al_mod w3 (.cells (cellsF ⟨tk, ta, tb, tx, ty, tl⟩ (.slice A1 tl.length n1)) TF)
  have hszB : (w3.alloc (.cells (cellsF ⟨tk, ta, tb, tx, ty, tl⟩ (.slice A1 tl.length n1)) TF)).heap.size = w3.heap.size + 1 := size_allocI w3 _
  have b3 := box_kept HF.out.1 hK3 (by simp)
  have h3 := (Array.getElem?_eq_some_iff.1 b3).1
  have b3' := (mB.block _ h3 (by simp)).trans b3
  have hF4 := hF3.add mB (b := w3.heap.size) (Nat.le_refl _) (by omega)
  have b4 := (MapKept.heap_alloc w3 (.cells (cellsF ⟨tk, ta, tb, tx, ty, tl⟩ (.slice A1 tl.length n1)) TF)).1
  obtain ⟨d0, d1, d2, d3, d4, d5, d6, d7, d8⟩ := nine_at b3'
  have H2 := Lib.hid (HPP.out _ _ _ hF4)
  have kB := ((HF.out.2.trans hK3 (by have := HSZ.out; omega)).trans (Kp.far mB) (by omega))
  have HE := Lib.hid (And.intro (hl1.far mB) (And.intro b4 (And.intro kB h3)))
  have HZ := Lib.hid hszB
  clear hF3 hK3 b3 b3' hl1 mB hF4 b4 kB h3 hszB c0 c1 c2 c3 c4 c5 c6 c7 c8 H1 HPP
  dsimp only [cellsF] at d0 d1 d2 d3 d4 d5 d6 d7 d8 H2 HE HZ
  go_wp2_with fail
  refine (H2.out).mono ?_
  rintro e w5 ⟨s2, rfl, hl2, hF5, hK5⟩
  obtain ⟨A2, n2, rfl, _⟩ := hl2.ls
  have mC := al_mod w5 (.cells (cellsF ⟨tk, ta, tb, tx, ty, tl⟩ (.slice A2 tl.length n2)) TF)
  obtain ⟨g1, b4, kB, h3⟩ := HE.out
  have b5 := box_kept b4 hK5 (by simp)
  have h5 := (Array.getElem?_eq_some_iff.1 b5).1
  have b5' := (mC.block _ h5 (by simp)).trans b5
  have b6 := (MapKept.heap_alloc w5 (.cells (cellsF ⟨tk, ta, tb, tx, ty, tl⟩ (.slice A2 tl.length n2)) TF)).1
  have g1' := (g1.kp hK5 (fun g hg => by rw [List.mem_cons]; exact Or.inr (List.mem_append.2 (Or.inl (by rw [hg]; simp))))).far mC
  have g2' := hl2.far mC
  have H3 := Lib.hid (one_calls (q := ⟨tk, ta, tb, tx, ty, tl⟩) g1'.ls g2'.ls (by have := HS.out; dsimp only; omega))
  obtain ⟨x0, x1, x2, x3, x4, x5, _⟩ := six_at b5'
  obtain ⟨y0, y1, y2, y3, y4, y5, _⟩ := six_at b6
  have kC := kB.trans (hK5.less (D' := w.heap.size :: D) (fun b hb => by rw [List.mem_cons]; exact Or.inr (List.mem_append.2 (Or.inr hb)))) (by have := HZ.out; omega)
  have hne : w3.heap.size ≠ w5.heap.size := by omega
  have HY := Lib.hid (And.intro (hF5.far mC) (And.intro (kC.trans (Kp.far mC) (by omega)) (show w.heap.size ≤ (w5.alloc (.cells (cellsF ⟨tk, ta, tb, tx, ty, tl⟩ (.slice A2 tl.length n2)) TF)).heap.size by rw [size_allocI]; omega)))
  clear hF5 hK5 hl2 mC g1 b4 kB h3 b5 h5 b5' b6 g1' g2' kC d0 d1 d2 d3 d4 d5 d6 d7 d8 H2 HE HZ HSZ
  unfold frV at H3
  dsimp only [cellsF] at x0 x1 x2 x3 x4 x5 y0 y1 y2 y3 y4 y5 H3 HY
  go_wp2_with fail
  refine (H3.out).mono ?_
  rintro e w7 ⟨rfl, hm7⟩
  have HW := Lib.hid (And.intro (HY.out.1.far hm7) (HY.out.2.1.trans (Kp.far hm7) HY.out.2.2))
  clear hm7 H3 HY x0 x1 x2 x3 x4 x5 y0 y1 y2 y3 y4 y5
  go_wp2_with fail
  go_ret
  exact ⟨rfl, _, HW.out.1.less (fun b hb => by simp [hb]), HW.out.2.less (fun b hb => List.mem_cons_of_mem _ hb)⟩
set_option maxRecDepth 100000 in
set_option maxHeartbeats 16000000 in
theorem does_catch {w0 w : World} {p q : Nat} {L : List Fm} {D : List Nat} (h : Fp w0 w p q L L D) (u : Int) (hu : Int.tmod u 9 = 8) (f : Fm) (s : Value) (n x : Int) : Calls Try.prog 13 #[Pt p, Pt q, .agg (cellsY u f s n x)] w (Done w0 w p q D) := by
  obtain ⟨hF, bA, K0⟩ := act_in h u f s n x
  obtain ⟨c0, c1, c2, c3, c4, c5, c6, c7, c8⟩ := nine_at bA
  have H1 := Lib.hid (hF.catch_)
  have HP := fun (W : World) (L2 : List Fm) (D2 : List Nat) (hW : Fp w0 W p q L2 L D2) => hW.rcatch
  have hsm := caught_small h.smallP
  obtain ⟨t, ht⟩ : ∃ t, t = (caught L).getD zF := ⟨_, rfl⟩
  obtain ⟨va, hva⟩ : ∃ va, va = (caught L).isSome := ⟨_, rfl⟩
  simp only [← ht, ← hva] at H1 HP hsm
  obtain ⟨tk, ta, tb, tx, ty, tl⟩ := t
  unfold Told frV at H1 HP
  dsimp only at H1 HP hsm
  have HPP := Lib.hid HP
  have HS := Lib.hid hsm
  have HF := Lib.hid (And.intro bA K0)
  have hsz : w.heap.size < (w.alloc (.cells (cellsY u f s n x) TA)).heap.size := by rw [size_allocI]; omega
  have HSZ := Lib.hid hsz
  clear h hF bA K0 HP ht hva hsm hsz
  go_enter Try.func13, Try.ntmps13
  go_wp2_with fail
  refine (H1.out).mono ?_
  rintro e w3 ⟨s1, rfl, hl1, hF3, hK3⟩
  obtain ⟨A1, n1, rfl, _⟩ := hl1.ls
  have mB := al_mod w3 (.cells (cellsF ⟨tk, ta, tb, tx, ty, tl⟩ (.slice A1 tl.length n1)) TF)
  have hszB : (w3.alloc (.cells (cellsF ⟨tk, ta, tb, tx, ty, tl⟩ (.slice A1 tl.length n1)) TF)).heap.size = w3.heap.size + 1 := size_allocI w3 _
  have b3 := box_kept HF.out.1 hK3 (by simp)
  have h3 := (Array.getElem?_eq_some_iff.1 b3).1
  have b3' := (mB.block _ h3 (by simp)).trans b3
  have hF4 := hF3.add mB (b := w3.heap.size) (Nat.le_refl _) (by omega)
  have b4 := (MapKept.heap_alloc w3 (.cells (cellsF ⟨tk, ta, tb, tx, ty, tl⟩ (.slice A1 tl.length n1)) TF)).1
  obtain ⟨d0, d1, d2, d3, d4, d5, d6, d7, d8⟩ := nine_at b3'
  have H2 := Lib.hid (HPP.out _ _ _ hF4)
  have kB := ((HF.out.2.trans hK3 (by have := HSZ.out; omega)).trans (Kp.far mB) (by omega))
  have HE := Lib.hid (And.intro (hl1.far mB) (And.intro b4 (And.intro kB h3)))
  have HZ := Lib.hid hszB
  clear hF3 hK3 b3 b3' hl1 mB hF4 b4 kB h3 hszB c0 c1 c2 c3 c4 c5 c6 c7 c8 H1 HPP
  dsimp only [cellsF] at d0 d1 d2 d3 d4 d5 d6 d7 d8 H2 HE HZ
  go_wp2_with fail
  refine (H2.out).mono ?_
  rintro e w5 ⟨s2, rfl, hl2, hF5, hK5⟩
  obtain ⟨A2, n2, rfl, _⟩ := hl2.ls
  have mC := al_mod w5 (.cells (cellsF ⟨tk, ta, tb, tx, ty, tl⟩ (.slice A2 tl.length n2)) TF)
  obtain ⟨g1, b4, kB, h3⟩ := HE.out
  have b5 := box_kept b4 hK5 (by simp)
  have h5 := (Array.getElem?_eq_some_iff.1 b5).1
  have b5' := (mC.block _ h5 (by simp)).trans b5
  have b6 := (MapKept.heap_alloc w5 (.cells (cellsF ⟨tk, ta, tb, tx, ty, tl⟩ (.slice A2 tl.length n2)) TF)).1
  have g1' := (g1.kp hK5 (fun g hg => by rw [List.mem_cons]; exact Or.inr (List.mem_append.2 (Or.inl (by rw [hg]; simp))))).far mC
  have g2' := hl2.far mC
  have H3 := Lib.hid (one_calls (q := ⟨tk, ta, tb, tx, ty, tl⟩) g1'.ls g2'.ls (by have := HS.out; dsimp only; omega))
  obtain ⟨x0, x1, x2, x3, x4, x5, _⟩ := six_at b5'
  obtain ⟨y0, y1, y2, y3, y4, y5, _⟩ := six_at b6
  have kC := kB.trans (hK5.less (D' := w.heap.size :: D) (fun b hb => by rw [List.mem_cons]; exact Or.inr (List.mem_append.2 (Or.inr hb)))) (by have := HZ.out; omega)
  have hne : w3.heap.size ≠ w5.heap.size := by omega
  have HY := Lib.hid (And.intro (hF5.far mC) (And.intro (kC.trans (Kp.far mC) (by omega)) (show w.heap.size ≤ (w5.alloc (.cells (cellsF ⟨tk, ta, tb, tx, ty, tl⟩ (.slice A2 tl.length n2)) TF)).heap.size by rw [size_allocI]; omega)))
  clear hF5 hK5 hl2 mC g1 b4 kB h3 b5 h5 b5' b6 g1' g2' kC d0 d1 d2 d3 d4 d5 d6 d7 d8 H2 HE HZ HSZ
  unfold frV at H3
  dsimp only [cellsF] at x0 x1 x2 x3 x4 x5 y0 y1 y2 y3 y4 y5 H3 HY
  go_wp2_with fail
  refine (H3.out).mono ?_
  rintro e w7 ⟨rfl, hm7⟩
  have HW := Lib.hid (And.intro (HY.out.1.far hm7) (HY.out.2.1.trans (Kp.far hm7) HY.out.2.2))
  clear hm7 H3 HY x0 x1 x2 x3 x4 x5 y0 y1 y2 y3 y4 y5
  go_wp2_with fail
  go_ret
  exact ⟨rfl, _, HW.out.1.less (fun b hb => by simp [hb]), HW.out.2.less (fun b hb => List.mem_cons_of_mem _ hb)⟩
end Go.Proofs.Ytacmidlhfcnkiaa
