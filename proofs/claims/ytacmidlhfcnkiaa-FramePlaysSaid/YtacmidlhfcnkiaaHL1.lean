/- Layer 14: the document's Step, where the loop goes on (case 1). Condition: the block is frames (Fr). -/
import Derived.Test.YtacmidlhfcnkiaaHJ
import Derived.BigRegion
namespace Go.Proofs.Ytacmidlhfcnkiaa
open Go.RowKit
set_option linter.unusedVariables false

set_option maxHeartbeats 16000000 in
theorem rstep_on1 {w : World} {p : Nat} {T : List Nat} {L : List Fm} {q : Fm} (h : Fr TR w p T (L ++ [q])) (hq : q.k = 3) (s : Int) {d : Int} (hd : wrap64 (q.x - q.y) = d) (he : s < 0 ∧ d < 0) : Calls Try.prog 31 #[Pt p, .int .i64 s] w (Stepped TR w p T false 0 (L ++ [{ q with x := wrap64 (q.x + s) }])) := by
  have HSM := Lib.hid h.small
  have H1 := Lib.hid (rtop_snoc h)
  obtain ⟨g, n, m, cap, A, s0, hn, hmL, hn2, hnc, hcap, hv, hLA, hT, hgp, hA, c0, hc, hfz⟩ := h.top
  obtain ⟨k, a, b, x, y, l⟩ := q
  dsimp only at hq hd
  subst hq
  unfold Tops frV at H1
  dsimp only at H1 ⊢
  have hw1 : IntKind.i64.wrap ((n : Int) - 1) = (m : Int) := by rw [IntKind.wrap_i64]; omega
  have hw2 : IntKind.i64.wrap (m : Int) = (m : Int) := by rw [IntKind.wrap_i64]; omega
  have hn1 : (n : Int) - 1 = (m : Int) := by omega
  have hup := upto_frames (some ⟨g, 0, none⟩) n cap m (by omega)
  obtain ⟨u, hu⟩ : ∃ u, wrap64 (d + s) = u := ⟨_, rfl⟩
  obtain ⟨z, hz⟩ : ∃ z, wrap64 (x + s) = z := ⟨_, rfl⟩
  rw [hz]
  obtain ⟨h1, h2⟩ := he
  have HV := Lib.hid (And.intro hv (And.intro hLA (And.intro hT (And.intro hA (And.intro hn hn2)))))
  clear h hc hfz hmL hv hLA hT hA hn hn2 hnc hcap hgp c0
  have i1 : ¬ (0 : Int) ≤ s := by omega
  have i2 : ¬ (0 : Int) ≤ d := by omega
  go_enter Try.func31, Try.ntmps31
  go_wp2_with fail
  refine (H1.out).mono ?_
  rintro e w1 ⟨s', rfl, hn, hm⟩
  obtain ⟨A', c', rfl, _⟩ := hn.1.ls
  obtain ⟨c0, c1, c2, c3, c4, c5, f0, f1, f2, f3, f4, f5⟩ := six_at (MapKept.heap_alloc w1 (.cells (cellsF ⟨3, a, b, x, y, l⟩ (.slice A' l.length c')) TF)).1
  have mW := Lib.hid (And.intro hn hm)
  dsimp only at c0 c1 c2 c3 c4 c5 f0 f1 f2 f3 f4 f5 mW
  clear hn hm
  go_upto_region 9 with fail
  obtain ⟨W, hW⟩ : ∃ W, W = w1.alloc (.cells (cellsF ⟨3, a, b, z, y, l⟩ (.slice A' l.length c')) TF) := ⟨_, rfl⟩
  obtain ⟨hn', hm⟩ := mW.out
  obtain ⟨hv, hLA, hT, hA, hn, hn2⟩ := HV.out
  have mV : Mod [] w W := by rw [hW]; exact hm.trans (al_mod _ _)
  have hb := (MapKept.heap_alloc w1 (.cells (cellsF ⟨3, a, b, z, y, l⟩ (.slice A' l.length c')) TF)).1
  rw [← hW] at hb
  have hlW : Lc W (.slice A' l.length c') l := by rw [hW]; exact hn'.1.far (al_mod _ _)
  dsimp only [cellsF] at hW
  rw [← hW]
  clear c0 c1 c2 c3 c4 c5 f0 f1 f2 f3 f4 f5 hW mW
  have hvW := hv.far mV
  have hrow : W.ownsRow 0 TF 6 (.slice (some ⟨g, 0, none⟩) m cap) m (flatG A) := by
    have := hvW.rowTake m (by simp; omega)
    rwa [List.take_left' hA] at this
  have hone : ∀ v ∈ flatG A, v.oneCell' = true := flatG_cells fun r hr => ((hv.loc r (List.mem_append.2 (Or.inl hr))).ls).one
  obtain ⟨⟨A1, c1, x1, A2, c2, x2, a1, a2, ma, ga⟩, ⟨B1, d1, u1, B2, d2, u2, b1, b2, mb, gb⟩, ⟨C1, e1, v1, C2, e2, v2, k1, k2, mc, gc⟩⟩ :=
    elF.three hrow hone (by omega) (cellsF ⟨3, a, b, z, y, l⟩ (.slice A' l.length c')) rfl (cellsF_one hlW.ls.one) 27
  have fin := fun (A5 : Option Addr) (c5 : Nat) (Y : World) (gg : Grew TF 6 W Y (.slice A5 (m + 1) c5) (m + 1) (flatG A ++ (cellsF ⟨3, a, b, z, y, l⟩ (.slice A' l.length c')).toList)) => by
    rw [← hA] at gg
    have h5 := hv.tops mV gg hlW (fun b hb => hn'.2 b hb)
    rw [hA] at h5
    exact h5
  obtain ⟨fa0, faf, FA⟩ := fin _ _ _ ga
  obtain ⟨fb0, fbf, FB⟩ := fin _ _ _ gb
  obtain ⟨fc0, fcf, FC⟩ := fin _ _ _ gc
  have kq : ∀ Y, Mod [] W Y → Y.cell? ⟨p, 0, none⟩ = some (.slice (some ⟨g, 0, none⟩) n cap) ∧ Y.cell? ⟨w1.heap.size, 0, none⟩ = some (.int .i64 3) ∧ Y.cell? ⟨w1.heap.size, 1, none⟩ = some (.int .i64 a) ∧ Y.cell? ⟨w1.heap.size, 2, none⟩ = some (.int .i64 b) ∧ Y.cell? ⟨w1.heap.size, 3, none⟩ = some (.int .i64 z) ∧ Y.cell? ⟨w1.heap.size, 4, none⟩ = some (.int .i64 y) ∧ Y.cell? ⟨w1.heap.size, 5, none⟩ = some (.slice A' l.length c') := fun Y mm => by
    obtain ⟨c0, c1, c2, c3, c4, c5, _⟩ := six_at ((mm.block _ (Array.getElem?_eq_some_iff.1 hb).1 (by simp)).trans hb)
    exact ⟨(hvW.far mm).c0, c0, c1, c2, c3, c4, c5⟩
  obtain ⟨p1, p2, p3, p4, p5, p6, p7⟩ := kq W (Mod.refl _ _)
  obtain ⟨q1, q2, q3, q4, q5, q6, q7⟩ := kq _ (al_mod W (.cells #[] TF))
  obtain ⟨r1, r2, r3, r4, r5, r6, r7⟩ := kq _ (al_mod W (.cells (cellsF ⟨3, a, b, z, y, l⟩ (.slice A' l.length c')) TF))
  obtain ⟨s1, s2, s3, s4, s5, s6, s7⟩ := kq _ ((al_mod W (.cells #[] TF)).trans (al_mod _ (.cells (cellsF ⟨3, a, b, z, y, l⟩ (.slice A' l.length c')) TF)))
  obtain ⟨t1, t2, t3, t4, t5, t6, t7⟩ := kq _ ((al_mod W (.cells (cellsF ⟨3, a, b, z, y, l⟩ (.slice A' l.length c')) TF)).trans (al_mod _ (.cells #[] TF)))
  obtain ⟨y1, y2, y3, y4, y5, y6, y7⟩ := kq x1 ma
  have sz : ∀ o : Obj, (W.alloc o).heap.size = W.heap.size + 1 := fun o => size_allocI W o
  have hzz := sz (.cells #[] TF)
  replace a1 : (appF 27 _).run Try.prog _ = .ok (.slice A1 m c1) x1 := a1
  replace a2 : (appF 27 _).run Try.prog _ = .ok (.slice A2 (m + 1) c2) x2 := a2
  replace b1 : (appF 27 _).run Try.prog _ = .ok (.slice B1 m d1) u1 := b1
  replace b2 : (appF 27 _).run Try.prog _ = .ok (.slice B2 (m + 1) d2) u2 := b2
  replace k1 : (appF 27 _).run Try.prog _ = .ok (.slice C1 m e1) v1 := k1
  replace k2 : (appF 27 _).run Try.prog _ = .ok (.slice C2 (m + 1) e2) v2 := k2
  clear hrow hone ga gb gc ma mb mc fin kq hb hn' hm hv hvW hT hA hn hn2 hLA mV hlW H1
  dsimp only [cellsF] at a1 a2 b1 b2 k1 k2 r1 r2 r3 r4 r5 r6 r7 s1 s2 s3 s4 s5 s6 s7 t1 t2 t3 t4 t5 t6 t7
  go_region
  all_goals
    clear a1 a2 b1 b2 k1 k2 p1 p2 p3 p4 p5 p6 p7 q1 q2 q3 q4 q5 q6 q7 r1 r2 r3 r4 r5 r6 r7 s1 s2 s3 s4 s5 s6 s7 t1 t2 t3 t4 t5 t6 t7 y1 y2 y3 y4 y5 y6 y7 fa0 faf fb0 fbf fc0 fcf
    go_wp2_with fail
    have hs9 : ∀ r ∈ L ++ [(⟨3, a, b, z, y, l⟩ : Fm)], r.l.length ≤ 1000 := fun r hr => (List.mem_append.1 hr).elim (fun hr => HSM.out r (List.mem_append.2 (Or.inl hr))) (fun hr => by rw [List.mem_singleton.1 hr]; exact HSM.out ⟨3, a, b, x, y, l⟩ (by simp))
    have hL9 : ∀ s9 : Value, L ++ [(⟨3, a, b, z, y, l⟩ : Fm)] = (A ++ [((⟨3, a, b, z, y, l⟩ : Fm), s9)]).map Prod.fst := fun s9 => by rw [HV.out.2.1]; simp
    rw [HV.out.2.2.1]
    first
      | exact bodyPost_ret (results_tmp2 Try.results31 _ _ _) rfl ⟨rfl, _, ⟨_, _, FA.out.1, hL9 _, rfl, hs9⟩, FA.out.2⟩
      | exact bodyPost_ret (results_tmp2 Try.results31 _ _ _) rfl ⟨rfl, _, ⟨_, _, FB.out.1, hL9 _, rfl, hs9⟩, FB.out.2⟩
      | exact bodyPost_ret (results_tmp2 Try.results31 _ _ _) rfl ⟨rfl, _, ⟨_, _, FC.out.1, hL9 _, rfl, hs9⟩, FC.out.2⟩
end Go.Proofs.Ytacmidlhfcnkiaa
