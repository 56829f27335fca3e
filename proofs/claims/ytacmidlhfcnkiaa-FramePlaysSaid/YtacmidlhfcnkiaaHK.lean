/- Layer 14: the document's SetLocal. Condition: the block is frames (Fr). -/
import Derived.Test.YtacmidlhfcnkiaaHG
namespace Go.Proofs.Ytacmidlhfcnkiaa
open Go.RowKit
set_option linter.unusedVariables false

theorem Lc.setc {w : World} {b n c i : Nat} {l : List Int} (h : Lc w (.slice (some ⟨b, 0, none⟩) n c) l) (x : Int) : Lc (w.setCell ⟨b, i, none⟩ (.int .i64 x)) (.slice (some ⟨b, 0, none⟩) n c) (l.set i x) := by
  rcases h with ⟨e, _⟩ | ⟨b', c', e, ho⟩
  · cases e
  · injection e with e1 e2 e3
    injection e1 with e1
    injection e1 with e1
    subst e1 e3
    refine Or.inr ⟨b, c, by simpa using e2, ?_⟩
    obtain ⟨cur, h1, h2, h3, h4, h5⟩ := ho
    refine ⟨cur.set! i (.int .i64 x), ?_, by simpa using h2, by simpa using h3, h4, ?_⟩
    · have := heap_setCell_same w b i _ _ (.int .i64 x) h1
      rw [this]
      simp
    · simp only [List.length_set, Array.set!_eq_setIfInBounds, Array.toList_setIfInBounds]
      rw [List.take_set, h5]
      simp [cellsI, List.map_set]
/-- Six stores into a row of frames. -/
abbrev sixAt (w : World) (g m : Nat) (v0 v1 v2 v3 v4 v5 : Value) : World :=
  (((((w.setCell ⟨g, m * 6, none⟩ v0).setCell ⟨g, m * 6 + 1, none⟩ v1).setCell ⟨g, m * 6 + 2, none⟩ v2).setCell ⟨g, m * 6 + 3, none⟩ v3).setCell ⟨g, m * 6 + 4, none⟩ v4).setCell ⟨g, m * 6 + 5, none⟩ v5
theorem row_six {w : World} {g n cap : Nat} {A B : List (Fm × Value)} {r : Fm × Value} (h : w.ownsRow 0 TF 6 (.slice (some ⟨g, 0, none⟩) n cap) n (flatG (A ++ r :: B))) (k a b x y : Int) (l : List Int) (s : Value) :
    (sixAt w g A.length (.int .i64 k) (.int .i64 a) (.int .i64 b) (.int .i64 x) (.int .i64 y) s).ownsRow 0 TF 6 (.slice (some ⟨g, 0, none⟩) n cap) n (flatG (A ++ ((⟨k, a, b, x, y, l⟩ : Fm), s) :: B)) ∧ Mod [g] w (sixAt w g A.length (.int .i64 k) (.int .i64 a) (.int .i64 b) (.int .i64 x) (.int .i64 y) s) := by
  obtain ⟨⟨k0, a0, b0, x0, y0, l0⟩, s0⟩ := r
  refine ⟨?_, (((((set_mod w g (A.length * 6) _).trans (set_mod _ g (A.length * 6 + 1) _)).trans (set_mod _ g (A.length * 6 + 2) _)).trans (set_mod _ g (A.length * 6 + 3) _)).trans (set_mod _ g (A.length * 6 + 4) _)).trans (set_mod _ g (A.length * 6 + 5) _)⟩
  have h0 := (h.stored (A.length * 6 + 0) (.int .i64 k)).1
  rw [flatG_set A ((⟨k0, a0, b0, x0, y0, l0⟩ : Fm), s0) ((⟨k, a0, b0, x0, y0, l⟩ : Fm), s0) B 0 (by omega) (.int .i64 k) rfl] at h0
  have h1 := (h0.stored (A.length * 6 + 1) (.int .i64 a)).1
  rw [flatG_set A ((⟨k, a0, b0, x0, y0, l⟩ : Fm), s0) ((⟨k, a, b0, x0, y0, l⟩ : Fm), s0) B 1 (by omega) (.int .i64 a) rfl] at h1
  have h2 := (h1.stored (A.length * 6 + 2) (.int .i64 b)).1
  rw [flatG_set A ((⟨k, a, b0, x0, y0, l⟩ : Fm), s0) ((⟨k, a, b, x0, y0, l⟩ : Fm), s0) B 2 (by omega) (.int .i64 b) rfl] at h2
  have h3 := (h2.stored (A.length * 6 + 3) (.int .i64 x)).1
  rw [flatG_set A ((⟨k, a, b, x0, y0, l⟩ : Fm), s0) ((⟨k, a, b, x, y0, l⟩ : Fm), s0) B 3 (by omega) (.int .i64 x) rfl] at h3
  have h4 := (h3.stored (A.length * 6 + 4) (.int .i64 y)).1
  rw [flatG_set A ((⟨k, a, b, x, y0, l⟩ : Fm), s0) ((⟨k, a, b, x, y, l⟩ : Fm), s0) B 4 (by omega) (.int .i64 y) rfl] at h4
  have h5 := (h4.stored (A.length * 6 + 5) s).1
  rw [flatG_set A ((⟨k, a, b, x, y, l⟩ : Fm), s0) ((⟨k, a, b, x, y, l⟩ : Fm), s) B 5 (by omega) s rfl] at h5
  exact h5
set_option maxHeartbeats 2000000 in
theorem rset_no {w : World} {p : Nat} {T : List Nat} {L : List Fm} (h : Fr TR w p T L) (i x : Int) (hp : placeL i L = none) : Calls Try.prog 33 #[Pt p, .int .i64 i, .int .i64 x] w (Gives TR w p T (.int .i64 (orE (-6) (localL i L))) (setL i x L)) := by
  have H1 := Lib.hid (rget_calls h i)
  have HH := Lib.hid h
  rw [(local_ofNone hp).1] at H1 ⊢
  rw [(local_ofNone hp).2]
  clear h hp
  go_enter Try.func33, Try.ntmps33
  go_wp2_with fail
  refine (H1.out).mono ?_
  rintro e w1 ⟨rfl, rfl⟩
  unfold orE
  go_wp2_with fail
  go_ret
  exact ⟨rfl, T, HH.out, Turn.refl _ _⟩
set_option maxHeartbeats 8000000 in
theorem rset_yes {w : World} {p : Nat} {v : Value} {A B : List (Fm × Value)} {q : Fm × Value} {k : Nat} (hv : Fv TR w p v (A ++ q :: B)) (hsm : ∀ r ∈ (A ++ q :: B).map Prod.fst, r.l.length ≤ 1000) (h4 : q.1.k = 4) (hB : ∀ x ∈ B.map Prod.fst, hides x = false) (hk : k < q.1.l.length) (hlo : locI ((A ++ q :: B).map Prod.fst) = (A.length : Int)) (x : Int) :
    Calls Try.prog 33 #[Pt p, .int .i64 (k : Int), .int .i64 x] w (Gives TR w p (Sf p v (A ++ q :: B)) (.int .i64 0) ((A ++ ({ q.1 with l := q.1.l.set k x }, q.2) :: B).map Prod.fst)) := by
  have H1 := Lib.hid (rget_calls (i := (k : Int)) ⟨v, _, hv, rfl, rfl, hsm⟩)
  rw [show localL (k : Int) ((A ++ q :: B).map Prod.fst) = some (q.1.l[k]) by rw [List.map_append, List.map_cons]; exact getL_is h4 hB hk] at H1
  have H2 := Lib.hid (rlocals_calls hv)
  rw [hlo] at H2
  have H3 := Lib.hid (rcopied_calls ((hv.loc q (by simp)).ls) (by have := hsm q.1 (by simp); omega))
  obtain ⟨g, cap, rfl, hgp, hc, hfz, hle, _⟩ := hv.at_
  obtain ⟨⟨k0, a, b, x0, y, l⟩, s⟩ := q
  dsimp only at h4 hk H1 H3 ⊢
  have r0 : w.cell? ⟨g, A.length * 6, none⟩ = some (.int .i64 k0) := hc 0 (by omega)
  have r1 : w.cell? ⟨g, A.length * 6 + 1, none⟩ = some (.int .i64 a) := hc 1 (by omega)
  have r2 : w.cell? ⟨g, A.length * 6 + 2, none⟩ = some (.int .i64 b) := hc 2 (by omega)
  have r3 : w.cell? ⟨g, A.length * 6 + 3, none⟩ = some (.int .i64 x0) := hc 3 (by omega)
  have r4 : w.cell? ⟨g, A.length * 6 + 4, none⟩ = some (.int .i64 y) := hc 4 (by omega)
  have r5 : w.cell? ⟨g, A.length * 6 + 5, none⟩ = some s := hc 5 (by omega)
  have c0 := hv.c0
  have hfew := hv.few
  obtain ⟨n, hn⟩ : ∃ n, n = (A ++ (⟨k0, a, b, x0, y, l⟩, s) :: B).length := ⟨_, rfl⟩
  have hmn : A.length < n := by rw [hn]; simp
  rw [← hn] at c0 hfew
  obtain ⟨m, hm⟩ : ∃ m, m = A.length := ⟨_, rfl⟩
  have HM := Lib.hid hm
  rw [← hm] at H2 r0 r1 r2 r3 r4 r5 hmn
  have hmI : (m : Int) < (n : Int) := by omega
  have hm0 : ¬ (m : Int) < 0 := by omega
  have hm00 : (0 : Int) ≤ (m : Int) := by omega
  have HV := Lib.hid (And.intro hv (And.intro hsm (And.intro hn hfew)))
  have HK := Lib.hid (And.intro hk (show (k : Int) < (l.length : Int) by omega))
  obtain ⟨y0, hy0⟩ : ∃ y0, y0 = l[k] := ⟨_, rfl⟩
  rw [← hy0] at H1
  unfold orE at H1
  unfold frV at H3
  dsimp only at H1 H3
  unfold Gives
  clear hv hsm hc hfz hle hn hm hfew hmn hB hlo hk hy0 h4 hgp
  go_enter Try.func33, Try.ntmps33
  go_wp2_with fail
  refine (H1.out).mono ?_
  rintro e w1 ⟨rfl, rfl⟩
  go_wp2_with fail
  refine (H2.out).mono ?_
  rintro e w1 ⟨rfl, rfl⟩
  go_wp2_with fail
  refine (H3.out).mono ?_
  rintro e w1 ⟨s', rfl, hnw, hm1⟩
  obtain ⟨hlc, hnew⟩ := hnw
  obtain ⟨b5, c5, rfl⟩ : ∃ b5 c5, s' = .slice (some ⟨b5, 0, none⟩) l.length c5 := by
    rcases hlc with ⟨_, e⟩ | ⟨b5, c5, e, _⟩
    · have := HK.out.1; rw [e] at this; simp at this
    · exact ⟨b5, c5, e⟩
  have hb0 : w.heap.size ≤ b5 := hnew b5 rfl
  have hb1 : b5 < w1.heap.size := hlc.lt b5 rfl
  have mA := al_mod w1 (.cells (cellsF ⟨k0, a, b, x0, y, l⟩ (.slice (some ⟨b5, 0, none⟩) l.length c5)) TF)
  have hbx := (MapKept.heap_alloc w1 (.cells (cellsF ⟨k0, a, b, x0, y, l⟩ (.slice (some ⟨b5, 0, none⟩) l.length c5)) TF)).1
  obtain ⟨d0, d1, d2, d3, d4, d5, f0, f1, f2, f3, f4, f5⟩ := six_at hbx
  have hlcA := hlc.far mA
  obtain ⟨z0, hz0⟩ : ∃ z0 : Int, z0 = l[k]'HK.out.1 := ⟨_, rfl⟩
  have hcell : (w1.alloc (.cells (cellsF ⟨k0, a, b, x0, y, l⟩ (.slice (some ⟨b5, 0, none⟩) l.length c5)) TF)).cell? ⟨b5, k, none⟩ = some (.int .i64 z0) ∧ (w1.alloc (.cells (cellsF ⟨k0, a, b, x0, y, l⟩ (.slice (some ⟨b5, 0, none⟩) l.length c5)) TF)).frozen? ⟨b5, k, none⟩ = false := by
    rcases hlcA with ⟨e, _⟩ | ⟨b', c', e, ho⟩
    · cases e
    · injection e with e1 e2 e3
      injection e1 with e1
      injection e1 with e1
      subst e1
      exact ⟨by rw [hz0]; exact ho.cell k HK.out.1, ho.free k⟩
  obtain ⟨hcl, hfr⟩ := hcell
  have hkI : (k : Int) < (l.length : Int) := HK.out.2
  have hkI2 : ¬ (l.length : Int) ≤ (k : Int) := by omega
  have hk00 : (0 : Int) ≤ (k : Int) := by omega
  have HL := Lib.hid (And.intro hlcA (And.intro hb0 (And.intro hb1 (And.intro hm1 (And.intro mA hbx)))))
  clear hlc hnew hb0 hb1 mA hbx hlcA hz0 hm1 H1 H2 H3
  dsimp only [cellsF] at d0 d1 d2 d3 d4 d5 f0 f1 f2 f3 f4 f5 hcl hfr HL
  go_upto_region 7 with fail
  obtain ⟨V, hV⟩ : ∃ V, V = w1.alloc (.cells #[.int .i64 k0, .int .i64 a, .int .i64 b, .int .i64 x0, .int .i64 y, .slice (some ⟨b5, 0, none⟩) l.length c5] TF) := ⟨_, rfl⟩
  obtain ⟨hlcA, hb0, hb1, hm1, mA, hbx⟩ := HL.out
  rw [← hV] at hlcA mA hbx ⊢
  obtain ⟨hv, hsm, hn, hfew⟩ := HV.out
  have mS := set_mod V b5 k (.int .i64 x)
  have lcW := hlcA.setc (i := k) x
  have bxW := (mS.block _ (Array.getElem?_eq_some_iff.1 hbx).1 (by simp; omega)).trans hbx
  have mW1 := (hm1.trans mA).then mS (fun u hu => Or.inr (by rw [List.mem_singleton.1 hu]; exact hb0))
  have hsz : w1.heap.size ≤ V.heap.size := mA.size
  have hszS : V.heap.size ≤ (V.setCell ⟨b5, k, none⟩ (.int .i64 x)).heap.size := mS.size
  clear d0 d1 d2 d3 d4 d5 f0 f1 f2 f3 f4 f5 hcl hfr HL hV hlcA mA hbx r0 r1 r2 r3 r4 r5 c0 mS
  generalize (V.setCell ⟨b5, k, none⟩ (.int .i64 x)) = W1 at lcW bxW mW1 hszS ⊢
  have hvW := hv.far mW1
  have hrow := hvW.row
  rw [← hn] at hrow
  have hvn : Value.slice (some ⟨g, 0, none⟩) (A ++ (⟨k0, a, b, x0, y, l⟩, s) :: B).length cap = .slice (some ⟨g, 0, none⟩) n cap := by rw [hn]
  rw [hvn] at hvW
  obtain ⟨A3, c3, W3, e3', g3, _⟩ := elF.base (al_mod W1 (.cells #[] TF)) (Nat.le_refl _) (lit_row TF 6 W1) hrow (flatG_cells fun r hr => ((hv.loc r hr).ls).one) (by omega) 27
  have hrow3 := g3.row
  obtain ⟨g5, rfl⟩ : ∃ g5, A3 = some ⟨g5, 0, none⟩ := by
    rcases hrow3.2 with ⟨e1, h0⟩ | ⟨g', cp', cur', e1, _⟩
    · omega
    · injection e1 with e1
      exact ⟨g', e1⟩
  have e3 : (appF 27 #[.slice (some ⟨W1.heap.size, 0, none⟩) 0 0, .slice (some ⟨g, 0, none⟩) n cap]).run Try.prog (W1.alloc (.cells #[] TF)) = .ok (.slice (some ⟨g5, 0, none⟩) n c3) W3 := e3'
  have hg5 : W1.heap.size ≤ g5 := by
    obtain ⟨g', e, hl⟩ := g3.own
    cases e
    exact hl
  have hcs : ∀ j u, j < 6 → (flatF ((⟨k0, a, b, x0, y, l⟩ : Fm), s))[j]? = some u → W3.cell? ⟨g5, A.length * 6 + j, none⟩ = some u := fun j u hj hu => by
    have := World.ownsRow.cells hrow3 rfl (A.length * 6 + j) u (by rw [flatG_get A _ B j hj]; exact hu)
    rwa [WideShapes.add_plain, Nat.zero_add] at this
  rw [← HM.out] at hcs
  have r0 : W3.cell? ⟨g5, m * 6, none⟩ = some (.int .i64 k0) := hcs 0 _ (by omega) rfl
  have r1 : W3.cell? ⟨g5, m * 6 + 1, none⟩ = some (.int .i64 a) := hcs 1 _ (by omega) rfl
  have r2 : W3.cell? ⟨g5, m * 6 + 2, none⟩ = some (.int .i64 b) := hcs 2 _ (by omega) rfl
  have r3 : W3.cell? ⟨g5, m * 6 + 3, none⟩ = some (.int .i64 x0) := hcs 3 _ (by omega) rfl
  have r4 : W3.cell? ⟨g5, m * 6 + 4, none⟩ = some (.int .i64 y) := hcs 4 _ (by omega) rfl
  have r5 : W3.cell? ⟨g5, m * 6 + 5, none⟩ = some s := hcs 5 _ (by omega) rfl
  have z0' : W3.frozen? ⟨g5, m * 6, none⟩ = false := hrow3.frozenAt _
  have z1 : W3.frozen? ⟨g5, m * 6 + 1, none⟩ = false := hrow3.frozenAt _
  have z2 : W3.frozen? ⟨g5, m * 6 + 2, none⟩ = false := hrow3.frozenAt _
  have z3 : W3.frozen? ⟨g5, m * 6 + 3, none⟩ = false := hrow3.frozenAt _
  have z4 : W3.frozen? ⟨g5, m * 6 + 4, none⟩ = false := hrow3.frozenAt _
  have z5 : W3.frozen? ⟨g5, m * 6 + 5, none⟩ = false := hrow3.frozenAt _
  have bx3 := (g3.m.block _ (Array.getElem?_eq_some_iff.1 bxW).1 (by simp)).trans bxW
  obtain ⟨d0, d1, d2, d3, d4, d5, _⟩ := six_at bx3
  have p1 := hvW.c0
  have p2 := (hvW.far (al_mod W1 (.cells #[] TF))).c0
  obtain ⟨s1, s2⟩ := row_six hrow3 k0 a b x0 y (l.set k x) (.slice (some ⟨b5, 0, none⟩) l.length c5)
  have lcW4 := (lcW.far g3.m).mod s2 (fun b' hb' hx => by
    have h6 : b' = g5 := by simpa using hx
    have h7 : b5 = b' := by simpa [Value.ownBlock] using hb'
    omega)
  have mW4 := (mW1.trans g3.m).then s2 (fun u hu => Or.inr (by rw [List.mem_singleton.1 hu]; have := mW1.size; omega))
  have hv4 := hv.far mW4
  have hv4c := hv4.c0
  have hv4f := hv4.f 0
  rw [hvn] at hv4c
  have hq9 : ∀ b', (Value.slice (some ⟨b5, 0, none⟩) l.length c5).ownBlock = some b' → w.heap.size ≤ b' ∧ b' ≠ g5 := fun b' hb' => by
    have h7 : b5 = b' := by simpa [Value.ownBlock] using hb'
    exact ⟨by omega, by omega⟩
  obtain ⟨t1, t2⟩ := hv.renew (g := g5) (A := A) (B := (⟨k0, a, b, x0, y, l⟩, s) :: B) (B' := B) (q := ((⟨k0, a, b, x0, y, l.set k x⟩ : Fm), .slice (some ⟨b5, 0, none⟩) l.length c5)) rfl (List.sublist_cons_self _ _) mW4 (by
    rw [show (A ++ ((⟨k0, a, b, x0, y, l.set k x⟩ : Fm), Value.slice (some ⟨b5, 0, none⟩) l.length c5) :: B).length = n by rw [hn]; simp]
    exact s1) rfl (by have := mW1.size; omega) lcW4 hq9 (by rw [show (A ++ ((⟨k0, a, b, x0, y, l.set k x⟩ : Fm), Value.slice (some ⟨b5, 0, none⟩) l.length c5) :: B).length = n by rw [hn]; simp]; exact hfew)
  have hsm2 : ∀ r ∈ (A ++ ((⟨k0, a, b, x0, y, l.set k x⟩ : Fm), Value.slice (some ⟨b5, 0, none⟩) l.length c5) :: B).map Prod.fst, r.l.length ≤ 1000 := fun r hr => by
    rw [List.map_append, List.map_cons] at hr hsm
    rcases List.mem_append.1 hr with hr | hr
    · exact hsm r (List.mem_append.2 (Or.inl hr))
    · rcases List.mem_cons.1 hr with hr | hr
      · have := hsm ⟨k0, a, b, x0, y, l⟩ (by simp)
        rw [hr]
        simpa using this
      · exact hsm r (List.mem_append.2 (Or.inr (List.mem_cons_of_mem _ hr)))
  have HE := Lib.hid (And.intro t1 (And.intro t2 hsm2))
  have HG := Lib.hid (And.intro hv4c hv4f)
  rw [← HM.out] at HE HG
  clear t1 t2 hsm2 hv4 hv4c hv4f mW4 lcW4 s1 s2 bx3 hcs hg5 e3' g3 hrow3 hrow hvW hvn hszS hsz mW1 bxW lcW hv hsm hn hfew hb0 hb1 hm1 HV
  go_upto_region 9 with fail
  obtain ⟨W4, hW4⟩ : ∃ W4, W4 = sixAt W3 g5 m (.int .i64 k0) (.int .i64 a) (.int .i64 b) (.int .i64 x0) (.int .i64 y) (.slice (some ⟨b5, 0, none⟩) l.length c5) := ⟨_, rfl⟩
  obtain ⟨hv4c, hv4f⟩ := HG.out
  rw [← hW4] at HE hv4c hv4f
  unfold sixAt at hW4
  rw [← hW4]
  clear hW4 HG r0 r1 r2 r3 r4 r5 z0' z1 z2 z3 z4 z5 d0 d1 d2 d3 d4 d5 p1 p2
  go_wp2_with fail
  go_ret
  exact ⟨rfl, _, ⟨_, _, HE.out.1, by simp, rfl, fun r hr => HE.out.2.2 r (by simpa using hr)⟩, HE.out.2.1⟩
/-- SetLocal, whatever is there. -/
theorem rset_calls {w : World} {p : Nat} {T : List Nat} {L : List Fm} (h : Fr TR w p T L) (i x : Int) : Calls Try.prog 33 #[Pt p, .int .i64 i, .int .i64 x] w (Gives TR w p T (.int .i64 (orE (-6) (localL i L))) (setL i x L)) := by
  obtain ⟨v, O, hv, rfl, rfl, hsm⟩ := h
  rcases place_cases O i with ⟨hp, _⟩ | ⟨A, B, q, k, rfl, h4, hB, rfl, hk, hlo⟩
  · exact rset_no ⟨v, O, hv, rfl, rfl, hsm⟩ i x hp
  · have h1 := rset_yes hv hsm h4 hB hk hlo x
    have hput := putL_is (A := A.map Prod.fst) (B := B.map Prod.fst) h4 hB hk x
    have hget := getL_is (A := A.map Prod.fst) (B := B.map Prod.fst) h4 hB hk
    rw [List.map_append, List.map_cons, hput, hget]
    rw [List.map_append, List.map_cons] at h1
    exact h1
end Go.Proofs.Ytacmidlhfcnkiaa
