/- Layer 11 (package flow): the top part is removed. Condition: the block is a builder (Bv). -/
import Derived.Test.YtnclfopdgilgaaaFD
namespace Go.Proofs.Ytnclfopdgilgaaa
open Go.RowKit
set_option linter.unusedVariables false

/-- The row of parts, turned within its block. -/
theorem Bv.inrow {tB tP : TypeId} {w w' : World} {p g n cap : Nat} {vc : Value} {O O' : List (Pk × Value)} {L : List Xi} (h : Bv tB tP w p vc (.slice (some ⟨g, 0, none⟩) n cap) O L) (hm : Mod [g] w w') (hrow : w'.ownsRow 0 tP 3 (.slice (some ⟨g, 0, none⟩) n cap) O'.length (flatO O'))
    (hsub : ∀ q ∈ O', q ∈ O ∨ (q.2.ownBlock = none ∧ Gr w' q.2 q.1.g)) (hgg : O'.Pairwise fun a b => ∀ g, a.2.ownBlock = some g → b.2.ownBlock ≠ some g) : Bv tB tP w' p vc (.slice (some ⟨g, 0, none⟩) n cap) O' L := by
  have ho : (Value.slice (some ⟨g, 0, none⟩) n cap).ownBlock = some g := rfl
  have hgp : g ≠ p := fun e => h.op (by rw [ho, e])
  refine ⟨(hm.block p h.lp (by simpa using hgp.symm)).trans h.blk, row_mod h.code hm fun b hb hx => ?_, hrow, fun q hq => ?_, h.cp, h.op, h.co, fun q hq => ?_, hgg⟩
  · have : b = g := by simpa using hx
    subst this
    exact h.co b hb ho
  · rcases hsub q hq with hq | ⟨_, hq⟩
    · exact row_mod (h.gaps q hq) hm fun b hb hx => ((h.gp q hq).2 b hb).2 (by rw [ho]; exact congrArg some (by simpa using hx : b = g).symm)
    · exact hq
  · rcases hsub q hq with hq | ⟨hq, _⟩
    · exact h.gp q hq
    · rw [hq]
      exact ⟨by simp, fun g hg => by cases hg⟩
theorem flatO_zero (A : List (Pk × Value)) (q : Pk × Value) : (((flatO (A ++ [q])).set (A.length * 3) (.int .i64 0)).set (A.length * 3 + 1) (.int .i64 0)).set (A.length * 3 + 2) (.slice none 0 0) = flatO (A ++ [(⟨0, 0, []⟩, .slice none 0 0)]) := by
  rw [flatO_app, flatO_app, flatO_one, flatO_one, ← flatO_len A, ← Nat.add_zero (flatO A).length, List.set_append_right _ _ (by omega), Nat.add_zero, List.set_append_right _ _ (by omega), List.set_append_right _ _ (by omega)]
  simp [flatQ]
/-- The top part's cells as zero. -/
theorem Bv.zero {tB tP : TypeId} {w : World} {p g n cap : Nat} {vc : Value} {A : List (Pk × Value)} {q : Pk × Value} {L : List Xi} (h : Bv tB tP w p vc (.slice (some ⟨g, 0, none⟩) n cap) (A ++ [q]) L) :
    Bv tB tP (((w.setCell ⟨g, A.length * 3, none⟩ (.int .i64 0)).setCell ⟨g, A.length * 3 + 1, none⟩ (.int .i64 0)).setCell ⟨g, A.length * 3 + 2, none⟩ (.slice none 0 0)) p vc (.slice (some ⟨g, 0, none⟩) n cap) (A ++ [(⟨0, 0, []⟩, .slice none 0 0)]) L ∧
      Mod [g] w (((w.setCell ⟨g, A.length * 3, none⟩ (.int .i64 0)).setCell ⟨g, A.length * 3 + 1, none⟩ (.int .i64 0)).setCell ⟨g, A.length * 3 + 2, none⟩ (.slice none 0 0)) := by
  have hn : n = (A ++ [q]).length := by
    obtain ⟨_, _, e, _⟩ := h.open_slice
    injection e
  subst hn
  have m1 := set_mod w g (A.length * 3) (.int .i64 0)
  have m2 := m1.trans (set_mod _ g (A.length * 3 + 1) (.int .i64 0))
  have m3 := m2.trans (set_mod _ g (A.length * 3 + 2) (.slice none 0 0))
  have r1 := (h.row.stored (A.length * 3) (.int .i64 0)).1
  have r2 := (World.ownsRow.stored r1 (A.length * 3 + 1) (.int .i64 0)).1
  have r3 := (World.ownsRow.stored r2 (A.length * 3 + 2) (.slice none 0 0)).1
  rw [flatO_zero] at r3
  have hgg := h.gg
  rw [List.pairwise_append] at hgg
  refine ⟨h.inrow m3 (by simpa using r3) (fun x hx => ?_) ?_, m3⟩
  · rcases List.mem_append.1 hx with hx | hx
    · exact Or.inl (by simp [hx])
    · obtain rfl := List.mem_singleton.1 hx
      exact Or.inr ⟨rfl, Ir.nil _ _⟩
  · rw [List.pairwise_append]
    refine ⟨hgg.1, by simp, fun a ha b hb g _ => ?_⟩
    obtain rfl := List.mem_singleton.1 hb
    simp [Value.ownBlock]
/-- The row of parts, cut. -/
theorem Bv.cut {tB tP : TypeId} {w : World} {p g n cap : Nat} {vc : Value} {A : List (Pk × Value)} {q : Pk × Value} {L : List Xi} (h : Bv tB tP w p vc (.slice (some ⟨g, 0, none⟩) n cap) (A ++ [q]) L) :
    Bv tB tP (w.setCell ⟨p, 1, none⟩ (.slice (some ⟨g, 0, none⟩) A.length cap)) p vc (.slice (some ⟨g, 0, none⟩) A.length cap) A L ∧ Mod [p] w (w.setCell ⟨p, 1, none⟩ (.slice (some ⟨g, 0, none⟩) A.length cap)) := by
  have hgg := h.gg
  rw [List.pairwise_append] at hgg
  refine h.set1 ?_ (fun x hx => h.gaps x (by simp [hx])) (Or.inl rfl) (fun x hx => h.gp x (by simp [hx])) hgg.1
  refine ⟨flatO_len A, ?_⟩
  rcases h.row.2 with ⟨e, h0⟩ | ⟨b, c, cur, e, h1, h2, h3, h4, h5, h6⟩
  · simp at h0
  · simp only [Value.slice.injEq, Option.some.injEq, Addr.mk.injEq, and_true] at e
    obtain ⟨rfl, rfl, rfl⟩ := e
    simp only [List.length_append, List.length_singleton] at h3 h6
    refine Or.inr ⟨g, cap, cur, rfl, h1, h2, by omega, h4, h5, ?_⟩
    have e1 : cur.toList.take (A.length * 3) = (cur.toList.take ((A.length + 1) * 3)).take (A.length * 3) := by rw [List.take_take]; congr 1; omega
    rw [e1, h6, flatO_app, List.take_append_of_le_length (by rw [flatO_len]; exact Nat.le_refl _), List.take_of_length_le (by rw [flatO_len]; exact Nat.le_refl _)]
theorem three_at {W : World} {b : Nat} {x y z : Value} {t : TypeId} (h : W.heap[b]? = some (.cells #[x, y, z] t (0, 0))) :
    W.cell? ⟨b, 0, none⟩ = some x ∧ W.cell? ⟨b, 1, none⟩ = some y ∧ W.cell? ⟨b, 2, none⟩ = some z ∧ ∀ i, W.frozen? ⟨b, i, none⟩ = false := by
  refine ⟨?_, ?_, ?_, fun i => ?_⟩
  · simp only [World.cell?, h]; rfl
  · simp only [World.cell?, h]; rfl
  · simp only [World.cell?, h]; rfl
  · simp only [World.frozen?, h]; rfl
theorem three_mod (w : World) (b : Nat) (x y z : Value) : Mod [b] w (((w.setCell ⟨b, 0, none⟩ x).setCell ⟨b, 1, none⟩ y).setCell ⟨b, 2, none⟩ z) := ((set_mod w b 0 x).trans (set_mod _ b 1 y)).trans (set_mod _ b 2 z)
set_option maxHeartbeats 2000000 in
theorem remove_calls {w : World} {p g n cap : Nat} {vc : Value} {A : List (Pk × Value)} {q : Pk} {v : Value} {L : List Xi} (h : Bv TB TP w p vc (.slice (some ⟨g, 0, none⟩) n cap) (A ++ [(q, v)]) L) (hd : A.length ≤ 1000) :
    Calls Try.prog 64 #[Pt p] w fun e w' => e = .returned (.agg #[.int .i64 (q.k : Int), .int .i64 (q.s : Int), v]) ∧ Bv TB TP w' p vc (.slice (some ⟨g, 0, none⟩) A.length cap) A L ∧ Gr w' v q.g ∧ Mod [p, g] w w' := by
  obtain ⟨a, ha⟩ : ∃ a, a = A.length := ⟨_, rfl⟩
  have hn : n = a + 1 := by
    obtain ⟨_, _, e, _⟩ := h.open_slice
    injection e with _ e
    rw [ha]; simpa using e
  have hgv : ∀ b, v.ownBlock = some b → b ∉ [p, g] := fun b hb hx => by
    have k := h.gp (q, v) (by simp)
    rcases List.mem_cons.1 hx with rfl | hx
    · exact k.1 hb
    · exact (k.2 b hb).2 (by obtain rfl := List.mem_singleton.1 hx; rfl)
  have hgr : Gr w v q.g := h.gaps (q, v) (by simp)
  have hgp : g ≠ p := fun e => h.op (by rw [e]; rfl)
  have H0 := Lib.hid h
  have HT := Lib.hid (fun (W : World) (m : Mod [] w W) => top_calls (h.far m) hd)
  obtain ⟨A2, cap2, rfl⟩ := hgr.slice
  obtain ⟨gl, hgl⟩ : ∃ gl, gl = q.g.length := ⟨_, rfl⟩
  have HG := Lib.hid (And.intro hgv (And.intro hgr (And.intro hgp hgl)))
  have nI : (n : Int) ≤ 1001 := by omega
  have naI : (n : Int) - 1 = (a : Int) := by omega
  rw [← ha] at HT
  have HA := Lib.hid (And.intro ha hn)
  clear h hgv hgr hgp hd ha hn hgl
  go_enter Try.func64, Try.ntmps64
  go_wp2_with fail
  refine (HT.out _ ((Mod.refl [] w).alloc _)).mono ?_
  rintro e w1 ⟨rfl, hm1⟩
  have HM1 := Lib.hid (((Mod.refl [] w).alloc _).trans hm1)
  have b0 : (w.alloc (.cells #[.int .i64 0, .int .i64 0, .slice none 0 0] TP)).heap[w.heap.size]? = some (.cells #[.int .i64 0, .int .i64 0, .slice none 0 0] TP (0, 0)) := (MapKept.heap_alloc w _).1
  have HB0 := Lib.hid ((hm1.block w.heap.size (by simp) (by simp)).trans b0)
  clear b0
  have K1 := H0.out.far HM1.out
  obtain ⟨g2, cap3, e, hgp1, c0, c1, c2, fr, _⟩ := K1.part
  obtain ⟨rfl, rfl⟩ : g2 = g ∧ cap3 = cap := by
    simp only [Value.slice.injEq, Option.some.injEq, Addr.mk.injEq, and_true] at e
    exact ⟨e.1.symm, e.2.2.symm⟩
  rw [← HA.out.1] at c0 c1 c2
  dsimp only at c0 c1 c2
  rw [← HG.out.2.2.2] at c2
  clear hm1 e
  have HK1 := Lib.hid K1
  have HFR := Lib.hid fr
  clear K1 fr
  go_wp2_with fail
  have hm0 := (Mod.refl [] w1).alloc (.cells #[.int .i64 (q.k : Int), .int .i64 (q.s : Int), .slice A2 gl cap2] TP)
  have b1 : (w1.alloc (.cells #[.int .i64 (q.k : Int), .int .i64 (q.s : Int), .slice A2 gl cap2] TP)).heap[w1.heap.size]? = some (.cells #[.int .i64 (q.k : Int), .int .i64 (q.s : Int), .slice A2 gl cap2] TP (0, 0)) := (MapKept.heap_alloc w1 _).1
  refine (HT.out _ (HM1.out.trans hm0)).mono ?_
  rintro e w2 ⟨rfl, hm2⟩
  have hmm := hm0.trans hm2
  have f0 := (hmm.frozen (x := ⟨g2, a * 3, none⟩) (by simp) (World.block_lt_of_cell? w1 _ c0)).trans (HFR.out _)
  have f1 := (hmm.frozen (x := ⟨g2, a * 3 + 1, none⟩) (by simp) (World.block_lt_of_cell? w1 _ c1)).trans (HFR.out _)
  have f2 := (hmm.frozen (x := ⟨g2, a * 3 + 2, none⟩) (by simp) (World.block_lt_of_cell? w1 _ c2)).trans (HFR.out _)
  have d0 := hmm.cell (by simp) c0
  have d1 := hmm.cell (by simp) c1
  have d2 := hmm.cell (by simp) c2
  have HM2 := Lib.hid hmm
  have HB := Lib.hid (hm2.block w1.heap.size (by simp) (by simp))
  have HB1 := Lib.hid b1
  clear hm0 hm2 hmm c0 c1 c2 b1
  go_upto_region 3 with fail
  have hz := (HK1.out.far HM2.out).zero
  have hlp := H0.out.lp
  have hlg : g2 < w.heap.size := H0.out.lo g2 rfl
  have hs1 := HM1.out.size
  have hs2 := HM2.out.size
  rw [← HA.out.1] at hz
  clear d0 d1 d2 f0 f1 f2
  generalize ((w2.setCell ⟨g2, a * 3, none⟩ (.int .i64 0)).setCell ⟨g2, a * 3 + 1, none⟩ (.int .i64 0)).setCell ⟨g2, a * 3 + 2, none⟩ (.slice none 0 0) = W at *
  obtain ⟨Z, mZ⟩ := hz
  have k1 := Z.c1
  have kf := Z.f 1
  have hw : IntKind.i64.wrap ((n : Int) - 1) = (a : Int) := by rw [IntKind.wrap_i64]; omega
  have hac : (a : Int) ≤ (cap3 : Int) := by
    obtain ⟨_, _, e, _, h4, _⟩ := Z.open_slice
    simp only [Value.slice.injEq] at e
    have := e.2.1; have := e.2.2
    rw [← e.2.1, ← e.2.2] at h4
    have := HA.out.2
    omega
  have hmW : Mod [g2] w W := ((HM1.out.trans HM2.out).up (by simp)).trans mZ
  have HZ := Lib.hid (And.intro Z hmW)
  have mC := Z.cut
  rw [← HA.out.1] at mC
  have mX : Mod [p, g2] w (W.setCell ⟨p, 1, none⟩ (.slice (some ⟨g2, 0, none⟩) a cap3)).drew := ((hmW.up (by simp)).trans (mC.2.up (by simp))).drew
  have mWX : Mod [p] W (W.setCell ⟨p, 1, none⟩ (.slice (some ⟨g2, 0, none⟩) a cap3)).drew := mC.2.drew
  have BX : Bv TB TP (W.setCell ⟨p, 1, none⟩ (.slice (some ⟨g2, 0, none⟩) a cap3)).drew p vc (.slice (some ⟨g2, 0, none⟩) a cap3) A L := mC.1.far (Mod.refl [] _).drew
  have s1 : w.heap.size < w1.heap.size := (Array.getElem?_eq_some_iff.1 HB0.out).1
  have s2 : w1.heap.size < w2.heap.size := (Array.getElem?_eq_some_iff.1 (HB.out.trans HB1.out)).1
  have xb := ((mWX.block w.heap.size (by have := mZ.size; omega) (by simp; omega)).trans ((mZ.block w.heap.size (by omega) (by simp; omega)).trans ((HM2.out.block w.heap.size s1 (by simp)).trans HB0.out)))
  have x0 := three_at ((mWX.block w.heap.size (by have := mZ.size; omega) (by simp; omega)).trans ((mZ.block w.heap.size (by omega) (by simp; omega)).trans ((HM2.out.block w.heap.size s1 (by simp)).trans HB0.out)))
  have x1 := three_at ((mWX.block w1.heap.size (by have := mZ.size; omega) (by simp; omega)).trans ((mZ.block w1.heap.size s2 (by simp; omega)).trans (HB.out.trans HB1.out)))
  have HX := Lib.hid (And.intro x0 (And.intro x1 (And.intro mX (And.intro BX xb))))
  clear Z mZ hmW mC mX mWX BX x0 x1 xb HB HB1 HB0
  go_region
  generalize (W.setCell ⟨p, 1, none⟩ (.slice (some ⟨g2, 0, none⟩) a cap3)).drew = X at *
  obtain ⟨⟨u0, u1, u2, uf⟩, ⟨t0, t1, t2, tf⟩, mX, BX, xb⟩ := HX.out
  have uf0 := uf 0
  have uf1 := uf 1
  have uf2 := uf 2
  have hne : w.heap.size ≠ w1.heap.size := by omega
  have HE := Lib.hid (And.intro mX (And.intro BX (And.intro hlp hlg)))
  have mY := three_mod X w.heap.size (.int .i64 (q.k : Int)) (.int .i64 (q.s : Int)) (.slice A2 gl cap2)
  have hYb : (((X.setCell ⟨w.heap.size, 0, none⟩ (.int .i64 (q.k : Int))).setCell ⟨w.heap.size, 1, none⟩ (.int .i64 (q.s : Int))).setCell ⟨w.heap.size, 2, none⟩ (.slice A2 gl cap2)).heap[w.heap.size]? = some (.cells #[.int .i64 (q.k : Int), .int .i64 (q.s : Int), .slice A2 gl cap2] TP (0, 0)) :=
    heap_setCell_same _ _ 2 _ _ _ (heap_setCell_same _ _ 1 _ _ _ (heap_setCell_same _ _ 0 _ _ _ xb))
  have HY := Lib.hid (And.intro mY hYb)
  clear HX uf tf mX BX mY k1 kf HZ xb hYb
  go_wp2_with fail
  generalize ((X.setCell ⟨w.heap.size, 0, none⟩ (.int .i64 (q.k : Int))).setCell ⟨w.heap.size, 1, none⟩ (.int .i64 (q.s : Int))).setCell ⟨w.heap.size, 2, none⟩ (.slice A2 gl cap2) = Y at *
  obtain ⟨y0, y1, y2, _⟩ := three_at HY.out.2
  refine bodyPost_ret (v := .agg #[.int .i64 (q.k : Int), .int .i64 (q.s : Int), .slice A2 gl cap2]) (by simp [results, Try.results64, go_sem, y0, y1, y2]) rfl ?_
  have hin : ∀ x ∈ Sof p vc (.slice (some ⟨g2, 0, none⟩) a cap3) A, x < w.heap.size := fun x hx => by
    refine H0.out.lt x ?_
    rcases mem_Sof.1 hx with hx | hx | hx | ⟨y, hy, hx⟩
    · exact mem_Sof.2 (Or.inl hx)
    · exact mem_Sof.2 (Or.inr (Or.inl hx))
    · exact mem_Sof.2 (Or.inr (Or.inr (Or.inl hx)))
    · exact mem_Sof.2 (Or.inr (Or.inr (Or.inr ⟨y, by simp [hy], hx⟩)))
  have hf := HE.out.1.then HY.out.1 (by simp)
  refine ⟨by rw [HG.out.2.2.2], ?_, row_mod HG.out.2.1 hf HG.out.1, hf⟩
  rw [← HA.out.1]
  exact HE.out.2.1.mod HY.out.1 fun x hx hy => by have := hin x hx; simp at hy; omega
end Go.Proofs.Ytnclfopdgilgaaa
