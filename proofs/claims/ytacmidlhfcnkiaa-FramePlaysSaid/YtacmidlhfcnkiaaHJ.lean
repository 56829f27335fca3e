/- Layer 14: the document's Step. Condition: the block is frames (Fr). -/
import Derived.Test.YtacmidlhfcnkiaaHI
import Derived.BigRegion
namespace Go.Proofs.Ytacmidlhfcnkiaa
open Go.RowKit
set_option linter.unusedVariables false

theorem ends_yes {d s : Int} (h : endsF d s = true) : (s < 0 ∧ 0 ≤ d ∧ wrap64 (d + s) < 0) ∨ (0 ≤ s ∧ d < 0 ∧ 0 ≤ wrap64 (d + s)) := by
  unfold endsF at h
  by_cases hs : s < 0
  · rw [if_pos hs] at h
    simp at h
    exact Or.inl ⟨hs, h.1, h.2⟩
  · rw [if_neg hs] at h
    simp at h
    exact Or.inr ⟨by omega, h.1, h.2⟩
theorem ends_not {d s : Int} (h : endsF d s = false) : (s < 0 ∧ d < 0) ∨ (s < 0 ∧ 0 ≤ d ∧ 0 ≤ wrap64 (d + s)) ∨ (0 ≤ s ∧ 0 ≤ d) ∨ (0 ≤ s ∧ d < 0 ∧ wrap64 (d + s) < 0) := by
  unfold endsF at h
  by_cases hs : s < 0
  · rw [if_pos hs] at h
    by_cases hd : 0 ≤ d
    · rw [decide_eq_true hd, Bool.true_and, decide_eq_false_iff_not] at h
      omega
    · omega
  · rw [if_neg hs] at h
    by_cases hd : d < 0
    · rw [decide_eq_true hd, Bool.true_and, decide_eq_false_iff_not] at h
      omega
    · omega
section
variable {tB : TypeId} {w : World} {p : Nat} {v : Value} {A : List (Fm × Value)} {r : Fm × Value}
/-- The uppermost frame is another, in a row made anew. -/
theorem Fv.tops (h : Fv tB w p v (A ++ [r])) {W Y : World} (mW : Mod [] w W) {v' : Value} {q : Fm} {s' : Value} (g : Grew TF 6 W Y v' (A.length + 1) (flatG A ++ (cellsF q s').toList)) (hl : Lc W s' q.l) (hb : ∀ b, s'.ownBlock = some b → w.heap.size ≤ b) :
    Y.cell? ⟨p, 0, none⟩ = some v ∧ Y.frozen? ⟨p, 0, none⟩ = false ∧ RowKit.Hid (Fv tB (Y.setCell ⟨p, 0, none⟩ v') p v' (A ++ [(q, s')]) ∧ Turn (Sf p v (A ++ [r])) (Sf p v' (A ++ [(q, s')])) w (Y.setCell ⟨p, 0, none⟩ v')) := by
  have mm := mW.trans g.m
  have hl5 := hl.far g.m
  obtain ⟨g', hg', hgX⟩ := g.own
  have h5 := h.far mm
  have hrow : Y.ownsRow 0 TF 6 v' (A ++ (q, s') :: []).length (flatG (A ++ (q, s') :: [])) := by
    rw [flatG_app, flatG_one]
    have := g.row
    simpa [flatF] using this
  obtain ⟨r1, r2⟩ := h.renew (A := A) (B := [r]) (B' := []) (q := (q, s')) rfl (List.nil_sublist _) mm hrow hg' (by have := mW.size; omega) hl5 (fun b hb' => ⟨hb b hb', row_ne g.row hg' hl5 hb'⟩) (by have := h.few; simpa using this)
  exact ⟨h5.c0, h5.f 0, Lib.hid ⟨r1, r2⟩⟩
end
set_option maxHeartbeats 2000000 in
theorem rstep_nil {w : World} {p : Nat} {T : List Nat} (h : Fr TR w p T []) (s : Int) : Calls Try.prog 31 #[Pt p, .int .i64 s] w (Stepped TR w p T false (-26) []) := by
  have H1 := Lib.hid (rtop_nil h)
  have HM := Lib.hid h
  clear h
  go_enter Try.func31, Try.ntmps31
  go_wp2_with fail
  refine (H1.out).mono ?_
  rintro e w1 ⟨rfl, hm⟩
  have HE := Lib.hid (hm.trans (al_mod w1 (.cells zC TF)))
  clear hm
  go_wp2_with fail
  exact bodyPost_ret (results_tmp2 Try.results31 _ _ _) rfl ⟨rfl, T, HM.out.far HE.out, (Turn.refl T w).far HE.out⟩
set_option maxHeartbeats 4000000 in
theorem rstep_wrong {w : World} {p : Nat} {T : List Nat} {L : List Fm} {q : Fm} (h : Fr TR w p T (L ++ [q])) (hq : q.k ≠ 3) (s : Int) : Calls Try.prog 31 #[Pt p, .int .i64 s] w (Stepped TR w p T false (-26) (L ++ [q])) := by
  have H1 := Lib.hid (rtop_snoc h)
  have HM := Lib.hid h
  obtain ⟨k, a, b, x, y, l⟩ := q
  have hk1 : (k != 3) = true := by simpa using hq
  unfold Tops frV at H1
  dsimp only at H1
  clear h hq
  go_enter Try.func31, Try.ntmps31
  go_wp2_with fail
  refine (H1.out).mono ?_
  rintro e w1 ⟨s', rfl, hn, hm⟩
  obtain ⟨A', c', rfl, _⟩ := hn.1.ls
  have HE := Lib.hid (hm.trans (al_mod w1 (.cells (cellsF ⟨k, a, b, x, y, l⟩ (.slice A' l.length c')) TF)))
  obtain ⟨c0, c1, c2, c3, c4, c5, f0, f1, f2, f3, f4, f5⟩ := six_at (MapKept.heap_alloc w1 (.cells (cellsF ⟨k, a, b, x, y, l⟩ (.slice A' l.length c')) TF)).1
  dsimp only at c0 c1 c2 c3 c4 c5 f0 f1 f2 f3 f4 f5 HE
  clear hn hm
  go_wp2_with fail
  exact bodyPost_ret (results_tmp2 Try.results31 _ _ _) rfl ⟨rfl, T, HM.out.far HE.out, (Turn.refl T w).far HE.out⟩
set_option maxHeartbeats 8000000 in
theorem rstep_over {w : World} {p : Nat} {T : List Nat} {L : List Fm} {q : Fm} (h : Fr TR w p T (L ++ [q])) (hq : q.k = 3) (s : Int) (he : endsF (wrap64 (q.x - q.y)) s = true) : Calls Try.prog 31 #[Pt p, .int .i64 s] w (Stepped TR w p T true 0 L) := by
  have H1 := Lib.hid (rtop_snoc h)
  obtain ⟨A, N, cap, hN, hN128, HC⟩ := h.cutTo
  obtain ⟨n, hn⟩ : ∃ n, n = L.length := ⟨_, rfl⟩
  have hNn : N = n + 1 := by rw [hN, hn]; simp
  have hw1 : IntKind.i64.wrap ((N : Int) - 1) = (n : Int) := by rw [IntKind.wrap_i64]; omega
  have hw2 : IntKind.i64.wrap (n : Int) = (n : Int) := by rw [IntKind.wrap_i64]; omega
  have hn1 : (N : Int) - 1 = (n : Int) := by omega
  have hup := (HC n (by omega)).1
  have HK := Lib.hid (fun W (m : Mod [] w W) => by
    have h1 := (HC n (by omega)).2 W m
    rw [show (L ++ [q]).take n = L by rw [hn]; simp] at h1
    exact h1)
  obtain ⟨k, a, b, x, y, l⟩ := q
  unfold Tops frV at H1
  dsimp only at H1 hq he ⊢
  subst hq
  obtain ⟨d, hd⟩ : ∃ d, wrap64 (x - y) = d := ⟨_, rfl⟩
  rw [hd] at he
  obtain ⟨u, hu⟩ : ∃ u, wrap64 (d + s) = u := ⟨_, rfl⟩
  have hes := ends_yes he
  rw [hu] at hes
  clear h hn hN HC hN128 hNn he
  rcases hes with ⟨h1, h2, h3⟩ | ⟨h1, h2, h3⟩
  all_goals
    first
      | have i1 : ¬ (0 : Int) ≤ s := by omega
        have i2 : ¬ d < 0 := by omega
        have i3 : ¬ (0 : Int) ≤ u := by omega
      | have i1 : ¬ s < 0 := by omega
        have i2 : ¬ (0 : Int) ≤ d := by omega
        have i3 : ¬ u < 0 := by omega
    go_enter Try.func31, Try.ntmps31
    go_wp2_with fail
    refine (H1.out).mono ?_
    rintro e w1 ⟨s', rfl, hn, hm⟩
    obtain ⟨A', c', rfl, _⟩ := hn.1.ls
    obtain ⟨c0, c1, c2, c3, c4, c5, f0, f1, f2, f3, f4, f5⟩ := six_at (MapKept.heap_alloc w1 (.cells (cellsF ⟨3, a, b, x, y, l⟩ (.slice A' l.length c')) TF)).1
    have mW := Lib.hid (hm.trans (al_mod w1 (.cells (cellsF ⟨3, a, b, x, y, l⟩ (.slice A' l.length c')) TF)))
    dsimp only at c0 c1 c2 c3 c4 c5 f0 f1 f2 f3 f4 f5 mW
    clear hn hm
    go_upto_region 6 with fail
    obtain ⟨W6, hW6⟩ : ∃ W6, W6 = w1.alloc (.cells (cellsF ⟨3, a, b, x, y, l⟩ (.slice A' l.length c')) TF) := ⟨_, rfl⟩
    have mW' := mW.out
    rw [← hW6] at mW'
    dsimp only [cellsF] at hW6
    rw [← hW6]
    clear c0 c1 c2 c3 c4 c5 f0 f1 f2 f3 f4 f5 hW6 mW
    obtain ⟨p1, fp0, T', hF0, hT0, hsub⟩ := HK.out W6 mW'
    have p0 : W6.drew.cell? ⟨p, 0, none⟩ = some (.slice A N cap) := p1
    have mdd : Mod [] (W6.setCell ⟨p, 0, none⟩ (.slice A n cap)) (W6.setCell ⟨p, 0, none⟩ (.slice A n cap)).drew := (Mod.refl [] _).drew
    have HD := Lib.hid (And.intro (hF0.far mdd) (hT0.far mdd))
    clear hF0 hT0 hsub HK mdd mW'
    go_region
    all_goals
      clear p0 fp0 p1
      go_wp2_with fail
      exact bodyPost_ret (results_tmp2 Try.results31 _ _ _) rfl ⟨rfl, _, HD.out.1, HD.out.2⟩
end Go.Proofs.Ytacmidlhfcnkiaa
