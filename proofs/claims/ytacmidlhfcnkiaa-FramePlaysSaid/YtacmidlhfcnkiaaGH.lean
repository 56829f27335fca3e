/- Layer 14 (package frame): Pop; what ends a loop. Condition: the block is frames (Fr). -/
import Derived.Test.YtacmidlhfcnkiaaGG
namespace Go.Proofs.Ytacmidlhfcnkiaa
open Go.RowKit
set_option linter.unusedVariables false

/-- What a call gives that tells a frame and turns the frames: the frame's locals are none of the frames' that are then. -/
def Gone (tB : TypeId) (w : World) (p : Nat) (T : List Nat) (q : Fm) (r : Value) (L : List Fm) (e : Ending) (w' : World) : Prop :=
  ∃ s', e = .returned (.tuple #[frV q s', r]) ∧ Lc w' s' q.l ∧ ∃ T', Fr tB w' p T' L ∧ Turn T T' w w' ∧ ∀ g, s'.ownBlock = some g → (g ∈ T ∨ w.heap.size ≤ g) ∧ g ∉ T'
theorem Fr.above {tB : TypeId} {w : World} {p : Nat} {T : List Nat} {L : List Fm} (h : Fr tB w p T L) {x : Nat} (hx : w.heap.size ≤ x) : x ∉ T := fun hT => by have := h.lt x hT; omega
theorem topK_some {k : Int} {A : List Fm} {q : Fm} (h : q.k = k) : popL k (A ++ [q]) = A ∧ errK k (-6) (A ++ [q]) = 0 := by
  unfold popL errK
  rw [topK_snoc, if_pos h]
  simp
theorem topK_no {k : Int} {L : List Fm} (h : topK k L = none) : popL k L = L ∧ errK k (-6) L = -6 := by
  unfold popL errK
  rw [h]
  simp
theorem pop_none (w : World) (k : Int) : Calls Try.prog 27 #[.pointer none, .int .i64 k] w fun e w' => ∃ s', e = .returned (.tuple #[frV zF s', .int .i64 2]) ∧ Mod [] w w' := by
  have mA := al_mod w (.cells zC TF)
  have hb := box_of (Mod.refl [] (w.alloc (.cells zC TF)))
  obtain ⟨d0, d1, d2, d3, d4, d5, g0, g1, g2, g3, g4, g5⟩ := six_at hb
  have HB := Lib.hid (And.intro hb mA)
  clear mA hb
  go_enter Try.func27, Try.ntmps27
  go_wp2_with fail
  exact bodyPost_ret (res_fr2 Try.results27 rfl HB.out.1) rfl ⟨_, rfl, HB.out.2⟩
/-- What a frame taken off leaves, put together. -/
theorem gone_of {w w' : World} {p : Nat} {T T' : List Nat} {q : Fm} {r : Value} {L' : List Fm} {s' : Value} (hT : ∀ x ∈ T, x < w.heap.size) (hn : New w w' s' q.l) (hF : Fr TP w' p T' L') (hu : Turn T T' w w') (hx : ∀ g, s'.ownBlock = some g → g ∉ T') : Gone TP w p T q r L' (.returned (.tuple #[frV q s', r])) w' :=
  ⟨s', rfl, hn.1, T', hF, hu, fun g hg => ⟨Or.inr (hn.2 g hg), hx g hg⟩⟩
/-- Six zeros stored into a box that holds them. -/
theorem box_zero {w : World} {b : Nat} (h : w.heap[b]? = some (.cells zC TF (0, 0))) : (sixSet w b (.int .i64 0) (.int .i64 0) (.int .i64 0) (.int .i64 0) (.int .i64 0) (.slice none 0 0)).heap[b]? = some (.cells zC TF (0, 0)) ∧ Mod [b] w (sixSet w b (.int .i64 0) (.int .i64 0) (.int .i64 0) (.int .i64 0) (.int .i64 0) (.slice none 0 0)) := six_set h
set_option maxHeartbeats 2000000 in
theorem pop_nil {w : World} {p : Nat} {T : List Nat} (h : Fr TP w p T []) (k : Int) : Calls Try.prog 27 #[Pt p, .int .i64 k] w (Gone TP w p T zF (.int .i64 (-6)) []) := by
  have mA := al_mod w (.cells zC TF)
  have H1 := Lib.hid (top_nil (h.far mA))
  have HM := Lib.hid (And.intro h mA)
  clear mA h
  go_enter Try.func27, Try.ntmps27
  go_wp2_with fail
  refine (H1.out).mono ?_
  rintro e w1 ⟨rfl, hm⟩
  have e0 := box_of hm
  have h0 := (Array.getElem?_eq_some_iff.1 e0).1
  have m2 := al_mod w1 (.cells zC TF)
  have b2 := box_of (Mod.refl [] (w1.alloc (.cells zC TF)))
  obtain ⟨c0, c1, c2, c3, c4, c5, f0, f1, f2, f3, f4, f5⟩ := six_at b2
  have e0' := (m2.block _ h0 (by simp)).trans e0
  obtain ⟨d0, d1, d2, d3, d4, d5, g0, g1, g2, g3, g4, g5⟩ := six_at e0'
  obtain ⟨z1, z2⟩ := box_zero e0'
  have HE := Lib.hid (And.intro z1 (((HM.out.2.trans hm).trans m2).far1 z2 (Nat.le_refl _)))
  clear e0 b2 m2 e0' h0 hm z1 z2
  go_wp2_with fail
  exact bodyPost_ret (res_fr2 Try.results27 rfl HE.out.1) rfl ⟨.slice none 0 0, rfl, Lc.nil _, T, HM.out.1.far HE.out.2, (Turn.refl T w).far HE.out.2, fun g hg => by cases hg⟩
/-- A frame boxed behind what Top told. -/
theorem box_next {w w1 : World} (e0 : w1.heap[w.heap.size]? = some (.cells zC TF (0, 0))) (m : Mod [] w w1) (q : Fm) (s' : Value) :
    (w1.alloc (.cells (cellsF q s') TF)).heap[w1.heap.size]? = some (.cells (cellsF q s') TF (0, 0)) ∧ (w1.alloc (.cells (cellsF q s') TF)).heap[w.heap.size]? = some (.cells zC TF (0, 0)) ∧ Mod [] w (w1.alloc (.cells (cellsF q s') TF)) ∧ w.heap.size ≠ w1.heap.size := by
  have h0 := (Array.getElem?_eq_some_iff.1 e0).1
  exact ⟨(MapKept.heap_alloc w1 _).1, ((al_mod w1 (.cells (cellsF q s') TF)).block _ h0 (by simp)).trans e0, m.trans (al_mod _ _), by omega⟩
set_option maxHeartbeats 4000000 in
theorem pop_wrong {w : World} {p : Nat} {T : List Nat} {L : List Fm} {q : Fm} (h : Fr TP w p T (L ++ [q])) (k : Int) (hk : q.k ≠ k) : Calls Try.prog 27 #[Pt p, .int .i64 k] w (Gone TP w p T zF (.int .i64 (-6)) (L ++ [q])) := by
  have mA := al_mod w (.cells zC TF)
  have H1 := Lib.hid (top_snoc (h.far mA))
  have HM := Lib.hid (And.intro h mA)
  obtain ⟨k0, a, b, x, y, l⟩ := q
  have hk1 : (k0 == k) = false := by simpa using hk
  unfold Tops frV at H1
  dsimp only at H1
  clear mA h hk
  go_enter Try.func27, Try.ntmps27
  go_wp2_with fail
  refine (H1.out).mono ?_
  rintro e w1 ⟨s', rfl, hn, hm⟩
  obtain ⟨A', c', rfl, _⟩ := hn.1.ls
  obtain ⟨b1, b2, m2, hne⟩ := box_next (box_of hm) (HM.out.2.trans hm) ⟨k0, a, b, x, y, l⟩ (.slice A' l.length c')
  obtain ⟨c0, c1, c2, c3, c4, c5, f0, f1, f2, f3, f4, f5⟩ := six_at b1
  obtain ⟨d0, d1, d2, d3, d4, d5, g0, g1, g2, g3, g4, g5⟩ := six_at b2
  obtain ⟨z1, z2⟩ := box_zero b2
  have HX := Lib.hid (And.intro z1 (m2.far1 z2 (Nat.le_refl _)))
  clear b1 b2 m2 hm hn z1 z2
  dsimp only at c0 c1 c2 c3 c4 c5 f0 f1 f2 f3 f4 f5 d0 d1 d2 d3 d4 d5 g0 g1 g2 g3 g4 g5 HX
  go_wp2_with fail
  exact bodyPost_ret (res_fr2 Try.results27 rfl HX.out.1) rfl ⟨.slice none 0 0, rfl, Lc.nil _, T, HM.out.1.far HX.out.2, (Turn.refl T w).far HX.out.2, fun g hg => by cases hg⟩
set_option maxHeartbeats 4000000 in
theorem pop_right {w : World} {p : Nat} {T : List Nat} {L : List Fm} {q : Fm} (h : Fr TP w p T (L ++ [q])) : Calls Try.prog 27 #[Pt p, .int .i64 q.k] w (Gone TP w p T q (.int .i64 0) L) := by
  have mA := al_mod w (.cells zC TF)
  have H1 := Lib.hid (top_snoc (h.far mA))
  obtain ⟨n, hn⟩ : ∃ n, n = L.length := ⟨_, rfl⟩
  have hcut : cutL (n : Int) (L ++ [q]) = L := by unfold cutL; rw [Int.toNat_natCast, hn]; simp
  obtain ⟨N, hN⟩ : ∃ N : Nat, N = (L ++ [q]).length := ⟨_, rfl⟩
  have hN1 : (N : Int) - 1 = (n : Int) := by rw [hN, hn]; simp
  have hcap : (N : Int) ≤ 128 := by have := h.few; omega
  have HK := Lib.hid (fun (W : World) (m : Mod [] w W) => ((fun (hF : Fr TP W p T (L ++ [q])) => (by
    obtain ⟨v, O, hv, hO, _⟩ := hF
    obtain ⟨A, cap, e, _⟩ := hv.slice
    refine ⟨A, cap, ?_⟩
    rw [hv.c0, e, hN, hO, List.length_map] : ∃ A cap, W.cell? ⟨p, 0, none⟩ = some (.slice A N cap))) (h.far m)))
  have HC := Lib.hid (fun (W : World) (m : Mod [] w W) => (cut_calls (h.far m) (n : Int)))
  have HM := Lib.hid (And.intro h mA)
  obtain ⟨k, a, b, x, y, l⟩ := q
  rw [hcut] at HC
  unfold Tops frV at H1
  dsimp only at H1 ⊢
  clear mA h hcut hn hN
  go_enter Try.func27, Try.ntmps27
  go_wp2_with fail
  refine (H1.out).mono ?_
  rintro e w1 ⟨s', rfl, hn, hm⟩
  obtain ⟨A', c', rfl, _⟩ := hn.1.ls
  obtain ⟨b1, b2, m2, hne⟩ := box_next (box_of hm) (HM.out.2.trans hm) ⟨k, a, b, x, y, l⟩ (.slice A' l.length c')
  obtain ⟨c0, c1, c2, c3, c4, c5, f0, f1, f2, f3, f4, f5⟩ := six_at b1
  obtain ⟨A8, cap8, p0⟩ := HK.out _ m2
  have HB := Lib.hid (And.intro b1 (And.intro b2 (And.intro m2 (And.intro hn hm))))
  have HCC := Lib.hid (HC.out _ m2)
  clear b1 b2 m2 hm hn HK HC
  dsimp only at c0 c1 c2 c3 c4 c5 f0 f1 f2 f3 f4 f5 p0 HCC HB
  go_wp2_with fail
  refine (HCC.out).mono ?_
  rintro e w3 ⟨⟨r0, rfl⟩, T', hF, hT⟩
  obtain ⟨b1, b2, m2, hn, hm⟩ := HB.out
  have hB0 : w.heap.size ∉ T := HM.out.1.above (Nat.le_refl _)
  have hB1 : w1.heap.size ∉ T := HM.out.1.above ((HM.out.2.trans hm).size)
  have b1' := (hT.1.block _ (Array.getElem?_eq_some_iff.1 b1).1 hB1).trans b1
  have b2' := (hT.1.block _ (Array.getElem?_eq_some_iff.1 b2).1 hB0).trans b2
  clear c0 c1 c2 c3 c4 c5 f0 f1 f2 f3 f4 f5 p0
  obtain ⟨c0, c1, c2, c3, c4, c5, f0, f1, f2, f3, f4, f5⟩ := six_at b1'
  obtain ⟨d0, d1, d2, d3, d4, d5, g0, g1, g2, g3, g4, g5⟩ := six_at b2'
  obtain ⟨z1, z2⟩ := six_set (v0 := .int .i64 k) (v1 := .int .i64 a) (v2 := .int .i64 b) (v3 := .int .i64 x) (v4 := .int .i64 y) (v5 := .slice A' l.length c') b2'
  have hg : ∀ g, (Value.slice A' l.length c').ownBlock = some g → w.heap.size + 1 ≤ g ∧ g < (w1.alloc (.cells (cellsF ⟨k, a, b, x, y, l⟩ (.slice A' l.length c')) TF)).heap.size := fun g hg => by
    have h1 := hn.2 g hg
    have h2 := hn.1.lt g hg
    rw [size_allocI] at h1
    rw [size_allocI]
    omega
  have hT' : ∀ u ∈ T', u ∈ T ∨ (w1.alloc (.cells (cellsF ⟨k, a, b, x, y, l⟩ (.slice A' l.length c')) TF)).heap.size ≤ u := hT.2
  have hlc := (hn.1.far (al_mod w1 (.cells (cellsF ⟨k, a, b, x, y, l⟩ (.slice A' l.length c')) TF))).mod hT.1 (fun g hg' hx => HM.out.1.above (by have := (hg g hg').1; omega) hx)
  have hlc2 := hlc.mod z2 (fun g hg' hx => by have := (hg g hg').1; have : g = w.heap.size := by simpa using hx
                                              omega)
  have hB0' : w.heap.size ∉ T' := fun hx => (hT' _ hx).elim hB0 fun hl => by rw [size_allocI] at hl; have := (HM.out.2.trans hm).size; omega
  have HE := Lib.hid (And.intro z1 (And.intro hlc2 (And.intro (hF.mod z2 (fun x hx => by simp; rintro rfl; exact hB0' hx)) (And.intro ((hT.ahead m2).1.then z2 (fun x hx => Or.inr (by rw [List.mem_singleton.1 hx]; exact Nat.le_refl _))) (And.intro hT' (And.intro hg m2))))))
  clear b1 b2 b1' b2' z1 z2 hF hT hT' hlc hlc2 hg hB0 hB1 hB0' hn hm m2 HB HCC
  go_wp2_with fail
  obtain ⟨z1, z2, z3, z4, z5, z6, m2⟩ := HE.out
  exact bodyPost_ret (res_fr2 Try.results27 rfl z1) rfl ⟨_, rfl, z2, T', z3, ⟨z4, fun u hx => (z5 u hx).imp id fun hl => Nat.le_trans m2.size hl⟩, fun g hg => ⟨Or.inr (by have := (z6 g hg).1; omega), fun hx => (z5 g hx).elim (fun h => HM.out.1.above (by have := (z6 g hg).1; omega) h) fun hl => by have := (z6 g hg).2; omega⟩⟩
end Go.Proofs.Ytacmidlhfcnkiaa
