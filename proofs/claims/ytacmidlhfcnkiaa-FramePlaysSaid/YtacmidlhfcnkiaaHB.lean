/- Layer 14: the document's Pop. Condition: the block is frames (Fr). -/
import Derived.Test.YtacmidlhfcnkiaaHA
namespace Go.Proofs.Ytacmidlhfcnkiaa
open Go.RowKit
set_option linter.unusedVariables false

theorem Fr.self {tB : TypeId} {w : World} {p : Nat} {T : List Nat} {L : List Fm} (h : Fr tB w p T L) : p ∈ T := by
  obtain ⟨v, O, hv, rfl, rfl, _⟩ := h
  exact mem_Sf.2 (Or.inl rfl)
/-- The row cut to its first n frames. -/
theorem Fr.cutTo {tB : TypeId} {w : World} {p : Nat} {T : List Nat} {L : List Fm} (h : Fr tB w p T L) : ∃ A N cap, N = L.length ∧ N ≤ 128 ∧ ∀ n, n ≤ N → (∀ W, (Instr.sliceAt 27 (.slice A N cap) none (some (.int .i64 (n : Int))) none).run Try.prog W = .ok (.slice A n cap) W) ∧
    ∀ W, Mod [] w W → W.cell? ⟨p, 0, none⟩ = some (.slice A N cap) ∧ W.frozen? ⟨p, 0, none⟩ = false ∧ ∃ T', Fr tB (W.setCell ⟨p, 0, none⟩ (.slice A n cap)) p T' (L.take n) ∧ Turn T T' w (W.setCell ⟨p, 0, none⟩ (.slice A n cap)) ∧ ∀ x ∈ T', x ∈ T := by
  obtain ⟨v, O, hv, rfl, rfl, hsm⟩ := h
  obtain ⟨A, cap, rfl, _, hle, _⟩ := hv.slice
  refine ⟨A, O.length, cap, by simp, hv.few, fun n hn => ⟨upto_frames A _ cap n (by omega), fun W m => ?_⟩⟩
  have hW := hv.far m
  obtain ⟨r1, r2⟩ := hv.shrunk (m.up (T := (Value.slice A O.length cap).ownBlock.toList) (by simp)) (hW.rowTake n hn) hn
  refine ⟨hW.c0, hW.f 0, _, ⟨_, _, r1, by rw [List.map_take], rfl, fun r hr => hsm r (List.mem_of_mem_take hr)⟩, r2, fun x hx => ?_⟩
  rcases mem_Sf.1 hx with hx | hx | hx
  · exact mem_Sf.2 (Or.inl hx)
  · refine mem_Sf.2 (Or.inr (Or.inl ?_))
    have hv' : (Value.slice A n cap).ownBlock = (Value.slice A O.length cap).ownBlock := by cases A <;> rfl
    rw [← hv']; exact hx
  · refine mem_Sf.2 (Or.inr (Or.inr ?_))
    have e : lbs O = lbs (O.take n) ++ lbs (O.drop n) := by rw [← lbs_app, List.take_append_drop]
    rw [e]
    exact List.mem_append.2 (Or.inl hx)
set_option maxHeartbeats 2000000 in
theorem rpop_nil {w : World} {p : Nat} {T : List Nat} (h : Fr TR w p T []) (k : Int) : Calls Try.prog 29 #[Pt p, .int .i64 k] w (Gone TR w p T zF (.int .i64 (-6)) []) := by
  have mA := al_mod w (.cells zC TF)
  have H1 := Lib.hid (rtop_nil (h.far mA))
  have HM := Lib.hid (And.intro h mA)
  clear mA h
  go_enter Try.func29, Try.ntmps29
  go_wp2_with fail
  refine (H1.out).mono ?_
  rintro e w1 ⟨rfl, hm⟩
  have e0 := box_of hm
  have h0 := (Array.getElem?_eq_some_iff.1 e0).1
  have m2 := al_mod w1 (.cells zC TF)
  have b2 := box_of (Mod.refl [] (w1.alloc (.cells zC TF)))
  obtain ⟨c0, c1, c2, c3, c4, c5, f0, f1, f2, f3, f4, f5⟩ := six_at b2
  have e0' := (m2.block _ h0 (by simp)).trans e0
  obtain ⟨d0, d1, d2, d3, d4, d5, g0, g1, g2, g3, g4, g5⟩ := six_at e0'
  obtain ⟨z1, z2⟩ := box_zero e0'
  have HE := Lib.hid (And.intro z1 (((HM.out.2.trans hm).trans m2).far1 z2 (Nat.le_refl _)))
  clear e0 b2 m2 e0' h0 hm z1 z2
  go_wp2_with fail
  exact bodyPost_ret (res_fr2 Try.results29 rfl HE.out.1) rfl ⟨.slice none 0 0, rfl, Lc.nil _, T, HM.out.1.far HE.out.2, (Turn.refl T w).far HE.out.2, fun g hg => by cases hg⟩
set_option maxHeartbeats 4000000 in
theorem rpop_wrong {w : World} {p : Nat} {T : List Nat} {L : List Fm} {q : Fm} (h : Fr TR w p T (L ++ [q])) (k : Int) (hk : q.k ≠ k) : Calls Try.prog 29 #[Pt p, .int .i64 k] w (Gone TR w p T zF (.int .i64 (-6)) (L ++ [q])) := by
  have mA := al_mod w (.cells zC TF)
  have H1 := Lib.hid (rtop_snoc (h.far mA))
  have HM := Lib.hid (And.intro h mA)
  obtain ⟨k0, a, b, x, y, l⟩ := q
  have hk1 : (k0 == k) = false := by simpa using hk
  unfold Tops frV at H1
  dsimp only at H1
  clear mA h hk
  go_enter Try.func29, Try.ntmps29
  go_wp2_with fail
  refine (H1.out).mono ?_
  rintro e w1 ⟨s', rfl, hn, hm⟩
  obtain ⟨A', c', rfl, _⟩ := hn.1.ls
  obtain ⟨b1, b2, m2, hne⟩ := box_next (box_of hm) (HM.out.2.trans hm) ⟨k0, a, b, x, y, l⟩ (.slice A' l.length c')
  obtain ⟨c0, c1, c2, c3, c4, c5, f0, f1, f2, f3, f4, f5⟩ := six_at b1
  obtain ⟨d0, d1, d2, d3, d4, d5, g0, g1, g2, g3, g4, g5⟩ := six_at b2
  obtain ⟨z1, z2⟩ := box_zero b2
  have HX := Lib.hid (And.intro z1 (m2.far1 z2 (Nat.le_refl _)))
  clear b1 b2 m2 hm hn z1 z2
  dsimp only at c0 c1 c2 c3 c4 c5 f0 f1 f2 f3 f4 f5 d0 d1 d2 d3 d4 d5 g0 g1 g2 g3 g4 g5 HX
  go_wp2_with fail
  exact bodyPost_ret (res_fr2 Try.results29 rfl HX.out.1) rfl ⟨.slice none 0 0, rfl, Lc.nil _, T, HM.out.1.far HX.out.2, (Turn.refl T w).far HX.out.2, fun g hg => by cases hg⟩
set_option maxHeartbeats 4000000 in
theorem rpop_right {w : World} {p : Nat} {T : List Nat} {L : List Fm} {q : Fm} (h : Fr TR w p T (L ++ [q])) : Calls Try.prog 29 #[Pt p, .int .i64 q.k] w (Gone TR w p T q (.int .i64 0) L) := by
  have mA := al_mod w (.cells zC TF)
  have H1 := Lib.hid (rtop_snoc (h.far mA))
  obtain ⟨A, N, cap, hN, hN128, HC⟩ := h.cutTo
  obtain ⟨n, hn⟩ : ∃ n, n = L.length := ⟨_, rfl⟩
  have hNn : N = n + 1 := by rw [hN, hn]; simp
  have hw1 : IntKind.i64.wrap ((N : Int) - 1) = (n : Int) := by rw [IntKind.wrap_i64]; omega
  have hw2 : IntKind.i64.wrap (n : Int) = (n : Int) := by rw [IntKind.wrap_i64]; omega
  have hn1 : (N : Int) - 1 = (n : Int) := by omega
  have hup := (HC n (by omega)).1
  have HK := Lib.hid (fun W (m : Mod [] w W) => by
    have h1 := (HC n (by omega)).2 W m
    rw [show (L ++ [q]).take n = L by rw [hn]; simp] at h1
    exact h1)
  have HM := Lib.hid (And.intro h mA)
  obtain ⟨k, a, b, x, y, l⟩ := q
  unfold Tops frV at H1
  dsimp only at H1 ⊢
  clear mA h hn hN HC hN128 hNn
  go_enter Try.func29, Try.ntmps29
  go_wp2_with fail
  refine (H1.out).mono ?_
  rintro e w1 ⟨s', rfl, hn, hm⟩
  obtain ⟨A', c', rfl, _⟩ := hn.1.ls
  obtain ⟨b1, b2, m2, hne⟩ := box_next (box_of hm) (HM.out.2.trans hm) ⟨k, a, b, x, y, l⟩ (.slice A' l.length c')
  have mX := al_mod w1 (.cells (cellsF ⟨k, a, b, x, y, l⟩ (.slice A' l.length c')) TF)
  have HX := Lib.hid (⟨⟨hn.1.far mX, fun g hg => ⟨hn.2 g hg, hn.1.lt g hg⟩⟩, mX.size⟩ : (Lc (w1.alloc (.cells (cellsF ⟨k, a, b, x, y, l⟩ (.slice A' l.length c')) TF)) (.slice A' l.length c') l ∧ ∀ g, (Value.slice A' l.length c').ownBlock = some g → (w.alloc (.cells zC TF)).heap.size ≤ g ∧ g < w1.heap.size) ∧ w1.heap.size ≤ (w1.alloc (.cells (cellsF ⟨k, a, b, x, y, l⟩ (.slice A' l.length c')) TF)).heap.size)
  have HLT := Lib.hid (Array.getElem?_eq_some_iff.1 (box_of hm)).1
  have HB := Lib.hid (And.intro b1 (And.intro b2 (And.intro m2 hne)))
  obtain ⟨c0, c1, c2, c3, c4, c5, f0, f1, f2, f3, f4, f5⟩ := six_at b1
  dsimp only at c0 c1 c2 c3 c4 c5 f0 f1 f2 f3 f4 f5 HB HX
  clear b1 b2 m2 hm hn mX hne
  go_upto_region 4 with fail
  obtain ⟨W6, hW6⟩ : ∃ W6, W6 = w1.alloc (.cells (cellsF ⟨k, a, b, x, y, l⟩ (.slice A' l.length c')) TF) := ⟨_, rfl⟩
  have hB := HB.out
  have hX := HX.out
  rw [← hW6] at hB hX
  dsimp only [cellsF] at hW6
  rw [← hW6]
  clear c0 c1 c2 c3 c4 c5 f0 f1 f2 f3 f4 f5 hW6 HB HX
  obtain ⟨p1, fp0, T', hF0, hT0, hsub⟩ := HK.out W6 hB.2.2.1
  have p0 : W6.drew.cell? ⟨p, 0, none⟩ = some (.slice A N cap) := p1
  have mdd : Mod [] (W6.setCell ⟨p, 0, none⟩ (.slice A n cap)) (W6.setCell ⟨p, 0, none⟩ (.slice A n cap)).drew := (Mod.refl [] _).drew
  have hF := hF0.far mdd
  have hT := hT0.far mdd
  have HD := Lib.hid (And.intro hB (And.intro hX (And.intro hF (And.intro hT hsub))))
  clear hB hX hF hT hsub HK hF0 hT0 mdd
  go_region
  all_goals
    clear p0 fp0 p1
    obtain ⟨⟨b1, b2, m2, hne⟩, ⟨⟨hlc, hg⟩, hz⟩, hF, hT, hsub⟩ := HD.out
    have mS : Mod [p] W6 (W6.setCell ⟨p, 0, none⟩ (.slice A n cap)).drew := (set_mod W6 p 0 (.slice A n cap)).drew
    have hpT : p ∈ T := HM.out.1.self
    have hpl := HM.out.1.lt p hpT
    have h0 := (Array.getElem?_eq_some_iff.1 b2).1
    have h1 := (Array.getElem?_eq_some_iff.1 b1).1
    have b1' := (mS.block _ h1 (by have := HLT.out; simp; omega)).trans b1
    have b2' := (mS.block _ h0 (by simp; omega)).trans b2
    obtain ⟨z1, z2⟩ := six_set (v0 := .int .i64 k) (v1 := .int .i64 a) (v2 := .int .i64 b) (v3 := .int .i64 x) (v4 := .int .i64 y) (v5 := .slice A' l.length c') b2'
    have hg2 : ∀ g, (Value.slice A' l.length c').ownBlock = some g → w.heap.size + 1 ≤ g := fun g hg' => by have := (hg g hg').1; rw [size_allocI] at this; exact this
    have hlc1 := hlc.mod mS (fun g hg' hx => by
      have h5 := hg2 g hg'
      have h6 : g = p := by simpa using hx
      omega)
    have hlc2 := hlc1.mod z2 (fun g hg' hx => by
      have h5 := hg2 g hg'
      have h6 : g = w.heap.size := by simpa using hx
      omega)
    have hF2 := hF.mod z2 (fun u hu => by simp; rintro rfl; exact absurd (HM.out.1.lt _ (hsub _ hu)) (by omega))
    have hT2 : Turn T T' w (sixSet (W6.setCell ⟨p, 0, none⟩ (.slice A n cap)).drew w.heap.size (.int .i64 k) (.int .i64 a) (.int .i64 b) (.int .i64 x) (.int .i64 y) (.slice A' l.length c')) := ⟨hT.1.then z2 fun u hu => Or.inr (by rw [List.mem_singleton.1 hu]; exact Nat.le_refl _), hT.2⟩
    have HE := Lib.hid (And.intro z1 (And.intro hlc2 (And.intro hF2 (And.intro hT2 (And.intro hsub hg2)))))
    clear b1 b2 m2 hlc hg hz hF hT hsub mS hpT hpl h0 h1 z1 z2 hg2 hlc1 hlc2 hF2 hT2 HD
    generalize (W6.setCell ⟨p, 0, none⟩ (.slice A n cap)).drew = X6 at b1' b2' HE ⊢
    obtain ⟨c0, c1, c2, c3, c4, c5, f0, f1, f2, f3, f4, f5⟩ := six_at b1'
    obtain ⟨d0, d1, d2, d3, d4, d5, g0, g1, g2, g3, g4, g5⟩ := six_at b2'
    clear b1' b2'
    go_wp2_with fail
    obtain ⟨z1, hlc2, hF2, hT2, hsub, hg2⟩ := HE.out
    exact bodyPost_ret (res_fr2 Try.results29 rfl z1) rfl ⟨_, rfl, hlc2, T', hF2, hT2, fun g hg => ⟨Or.inr (by have := hg2 g hg; omega), fun hx => absurd (HM.out.1.lt _ (hsub _ hx)) (by have := hg2 g hg; omega)⟩⟩
end Go.Proofs.Ytacmidlhfcnkiaa
