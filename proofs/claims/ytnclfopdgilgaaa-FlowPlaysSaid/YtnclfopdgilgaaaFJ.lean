/- Layer 11 (package flow): endBranch; a gap below the top part. Condition: the block is a builder (Bl) with so many instructions and parts. -/
import Derived.Test.YtnclfopdgilgaaaFI
namespace Go.Proofs.Ytnclfopdgilgaaa
open Go.RowKit
set_option linter.unusedVariables false

/-- An append in a region that draws, by what it gives. -/
theorem step_appI {ops : Array Oper} {o : Oper} {a : Act} {w w' : World} {K : Act → World → Prop} {Q : Exit → Act → World → Prop} {E : Prop} (hgd : o.guard = none) (s x : Operand)
    (ho : o.op = .call { callee := .builtin .append, args := #[s, x], argTypes := #[46, 46] }) {v1 v2 r : Value} (h1 : a.eval s = v1) (h2 : a.eval x = v2)
    (hr : (appInts o.type #[v1, v2]).run Try.prog w = .ok r w') (hK : K (a.put o.dst r) w') : if Region.wanted o (yielded ops a.tmps) = true then Oper.wp Try.prog o a w K Q else E := by
  have hw : Region.wanted o (yielded ops a.tmps) = true := by simp [Region.wanted, hgd]
  rw [if_pos hw]
  unfold Oper.wp execOp
  unfold appInts at hr
  simp only [ho, resolve, invoke, builtin, Sem.run_bind, Sem.run_pure, Result.andThen_ok, List.map_toArray, List.map_cons, List.map_nil, h1, h2, hr]
  exact hK
set_option maxHeartbeats 4000000 in
set_option maxRecDepth 100000 in
theorem endbr_acts (L : List Xi) (C : List Pk) (r q : Pk) (i : Nat) (hl : L.length = i + 1) (hi : i ≤ 999) (hd : C.length ≤ 998) (hq : ∀ j ∈ q.g, j < L.length) (hq2 : q.g.length ≤ 1000) (hr2 : r.g.length ≤ 1000) :
    Acts 53 ⟨L, C ++ [r, q]⟩ ⟨closeL L.length q.g L, C ++ [{ r with g := r.g ++ [i] }]⟩ := fun w p S h => by
  have e : C ++ [r, q] = (C ++ [r]) ++ [q] := by simp
  rw [e] at h
  have H1 := Lib.hid (close_bl h (by simp; omega) (by omega) hq hq2)
  have HN := Lib.hid (And.intro hl (And.intro hi (And.intro hd hr2)))
  clear h hd hl hq hq2 hr2 e hi
  go_enter Try.func53, Try.ntmps53
  go_wp2_with fail
  refine (H1.out).mono ?_
  rintro e w1 ⟨⟨v0, rfl⟩, S1, ⟨vc, vo, O, h, h2, rfl⟩, hT⟩
  have HT := Lib.hid hT
  obtain ⟨A, v, rfl, rfl⟩ := snoc_map h2
  obtain ⟨A3, c3, hv3⟩ : ∃ A3 c3, v = .slice A3 r.g.length c3 := (h.gaps (r, v) (by simp)).slice
  obtain ⟨gl, hgl⟩ : ∃ gl, gl = r.g.length := ⟨_, rfl⟩
  rw [← hgl] at hv3
  subst hv3
  have HGL := Lib.hid hgl
  clear hgl
  obtain ⟨g, cap, rfl, hgp, _, _, _, _, _⟩ := h.part
  have H2 := Lib.hid (top_calls h (by have := HN.out.2.2.1; simp at this; omega))
  have HV := Lib.hid h
  clear h h2 hT H1
  go_wp2_with fail
  refine (H2.out).mono ?_
  rintro e w2 ⟨rfl, hm2⟩
  have h := HV.out.far hm2
  obtain ⟨g', cap', e, _, _, _, c2, fr, _⟩ := h.part
  simp only [Value.slice.injEq, Option.some.injEq, Addr.mk.injEq, and_true] at e
  obtain ⟨rfl, _, rfl⟩ := e
  dsimp only at c2
  have hM3 : Mod [] w2 (w2.alloc (.cells #[.int .i64 (i : Int)] 3)).drew := ((Mod.refl [] w2).alloc _).drew
  obtain ⟨A', n', cp', w', hr, hm, hB, hTT⟩ := h.gap_app hM3 HN.out.2.2.2 i 46 ⟨w2.heap.size, 0, none⟩ 1 (one_int w2 (i : Int))
  obtain ⟨a, ha⟩ : ∃ a, a = A.length := ⟨_, rfl⟩
  have kq := (h.gp (r, .slice A3 gl c3) (by simp)).2
  have hgv : g ∉ (Value.slice A3 gl c3).ownBlock.toList := fun hx => (kq g (by simpa using hx)).2 rfl
  have c2Z := hM3.cell (by simp) c2
  have g2 := hm.cell (x := ⟨g, A.length * 3 + 2, none⟩) hgv c2Z
  have gf := (hm.frozen (x := ⟨g, A.length * 3 + 2, none⟩) hgv (World.block_lt_of_cell? _ _ c2Z)).trans ((hM3.frozen (x := ⟨g, A.length * 3 + 2, none⟩) (by simp) (World.block_lt_of_cell? _ _ c2)).trans (fr _))
  have c2Y : (w2.alloc (.cells #[.int .i64 (i : Int)] 3)).cell? ⟨g, A.length * 3 + 2, none⟩ = some (.slice A3 gl c3) := c2Z
  have HL := Lib.hid (last_bl (Bl.of_bv (h.far (Mod.refl [] w2).drew)) i (by rw [closeL_len]; exact HN.out.1) HN.out.2.1)
  have HF := Lib.hid (And.intro hB (hTT.ahead hm2))
  replace hr : (appInts 46 _).run Try.prog _ = .ok (.slice A' n' cp') w' := hr
  rw [← ha] at c2 c2Y g2 gf HF
  clear h hm2 hM3 hm hB hTT c2Z hgv kq fr HV H2
  have HA := Lib.hid ha
  rw [← ha]
  clear ha
  go_upto_region 2 with fail
  refine wp_region_any (by kernel_rfl) ?_
  try (change wpAny _ _ _ _ _ _ _ (World.drew _))
  refine wpAny_take (i := 0) (v := ?_) rfl (by kernel_rfl) (by kernel_rfl) (by kernel_rfl) (fun _ _ _ h => h) (Or.inl ⟨by rfl, ?_⟩) ?_
  rotate_left 1
  · intro w; go_simp; try with_reducible rfl
  refine wpAny_take (i := 1) (v := ?_) rfl (by kernel_rfl) (by kernel_rfl) (by kernel_rfl) (fun _ _ _ h => h) (Or.inl ⟨by rfl, ?_⟩) ?_
  rotate_left 1
  · intro w; go_simp; try with_reducible rfl
  refine wpAny_take (i := 2) (v := ?_) rfl (by kernel_rfl) (by kernel_rfl) (by kernel_rfl) (fun _ _ _ h => h) (Or.inl ⟨by rfl, ?_⟩) ?_
  rotate_left 1
  · intro w; go_simp; try with_reducible rfl
  refine wpAny_take (i := 3) (v := ?_) rfl (by kernel_rfl) (by kernel_rfl) (by kernel_rfl) (fun _ _ _ h => h) (Or.inl ⟨by rfl, ?_⟩) ?_
  rotate_left 1
  · intro w; go_simp; try with_reducible rfl
  refine wpAny_take (i := 5) (v := ?_) rfl (by kernel_rfl) (by kernel_rfl) (by kernel_rfl) (fun _ _ _ h => h) (Or.inl ⟨by rfl, ?_⟩) ?_
  rotate_left 1
  · intro w; go_simp; try with_reducible rfl
  refine wpAny_ready (rs := [4, 6]) (by kernel_rfl) (by simp) ?_
  refine AllReady.cons rfl (fun K hK => ?_) ?_
  · go_simp
    refine hK _ _ ?_; clear hK K
    refine wpAny_ready (rs := [6]) (by kernel_rfl) (by simp) ?_
    refine AllReady.cons rfl (fun K hK => ?_) ?_
    · go_simp; refine HL.out.mono ?_; rintro e w9 ⟨rfl, rfl⟩
      refine hK _ _ ?_; clear hK K
      refine wpAny_ready (rs := [7]) (by kernel_rfl) (by simp) ?_
      refine AllReady.cons rfl (fun K hK => ?_) ?_
      · go_simp
        refine hK _ _ ?_; clear hK K
        refine wpAny_ready (rs := [8]) (by kernel_rfl) (by simp) ?_
        refine AllReady.cons rfl (fun K hK => ?_) ?_
        · refine step_appI (by rfl) (.tmp 11) (.tmp 14) (by rfl) (by rfl) (by rfl) hr ?_
          refine hK _ _ ?_; clear hK K
          simp only [Act.put, List.setIfInBounds_toArray]
          refine wpAny_take (i := 9) (v := ?_) rfl (by kernel_rfl) (by kernel_rfl) (by kernel_rfl) (fun _ _ _ h => h) (Or.inl ⟨by rfl, ?_⟩) ?_
          rotate_left 1
          · intro w; go_simp; try with_reducible rfl
          refine wpAny_take (i := 10) (v := ?_) rfl (by kernel_rfl) (by kernel_rfl) (by kernel_rfl) (fun _ _ _ h => h) (Or.inl ⟨by rfl, ?_⟩) ?_
          rotate_left 1
          · intro w; go_simp; try with_reducible rfl
          refine wpAny_ready (rs := [11]) (by kernel_rfl) (by simp) ?_
          refine AllReady.cons rfl (fun K hK => ?_) ?_
          · go_simp
            refine hK _ _ ?_; clear hK K
            refine wpAny_done (by kernel_rfl) ?_ _
            clear hr c2 c2Y g2 gf
            go_wp2_with fail
            go_end0
            refine ⟨⟨_, rfl⟩, _, ⟨_, _, _, ?_, ?_, rfl⟩, HT.out.trans HF.out.2⟩
            · exact HF.out.1
            · simp
          exact AllReady.nil
        exact AllReady.nil
      exact AllReady.nil
    exact AllReady.nil
  refine AllReady.cons rfl (fun K hK => ?_) ?_
  · go_simp; refine HL.out.mono ?_; rintro e w9 ⟨rfl, rfl⟩
    refine hK _ _ ?_; clear hK K
    refine wpAny_ready (rs := [4, 7]) (by kernel_rfl) (by simp) ?_
    refine AllReady.cons rfl (fun K hK => ?_) ?_
    · go_simp
      refine hK _ _ ?_; clear hK K
      refine wpAny_ready (rs := [7]) (by kernel_rfl) (by simp) ?_
      refine AllReady.cons rfl (fun K hK => ?_) ?_
      · go_simp
        refine hK _ _ ?_; clear hK K
        refine wpAny_ready (rs := [8]) (by kernel_rfl) (by simp) ?_
        refine AllReady.cons rfl (fun K hK => ?_) ?_
        · refine step_appI (by rfl) (.tmp 11) (.tmp 14) (by rfl) (by rfl) (by rfl) hr ?_
          refine hK _ _ ?_; clear hK K
          simp only [Act.put, List.setIfInBounds_toArray]
          refine wpAny_take (i := 9) (v := ?_) rfl (by kernel_rfl) (by kernel_rfl) (by kernel_rfl) (fun _ _ _ h => h) (Or.inl ⟨by rfl, ?_⟩) ?_
          rotate_left 1
          · intro w; go_simp; try with_reducible rfl
          refine wpAny_take (i := 10) (v := ?_) rfl (by kernel_rfl) (by kernel_rfl) (by kernel_rfl) (fun _ _ _ h => h) (Or.inl ⟨by rfl, ?_⟩) ?_
          rotate_left 1
          · intro w; go_simp; try with_reducible rfl
          refine wpAny_ready (rs := [11]) (by kernel_rfl) (by simp) ?_
          refine AllReady.cons rfl (fun K hK => ?_) ?_
          · go_simp
            refine hK _ _ ?_; clear hK K
            refine wpAny_done (by kernel_rfl) ?_ _
            clear hr c2 c2Y g2 gf
            go_wp2_with fail
            go_end0
            refine ⟨⟨_, rfl⟩, _, ⟨_, _, _, ?_, ?_, rfl⟩, HT.out.trans HF.out.2⟩
            · exact HF.out.1
            · simp
          exact AllReady.nil
        exact AllReady.nil
      exact AllReady.nil
    refine AllReady.cons rfl (fun K hK => ?_) ?_
    · go_simp
      refine hK _ _ ?_; clear hK K
      refine wpAny_ready (rs := [4]) (by kernel_rfl) (by simp) ?_
      refine AllReady.cons rfl (fun K hK => ?_) ?_
      · go_simp
        refine hK _ _ ?_; clear hK K
        refine wpAny_ready (rs := [8]) (by kernel_rfl) (by simp) ?_
        refine AllReady.cons rfl (fun K hK => ?_) ?_
        · refine step_appI (by rfl) (.tmp 11) (.tmp 14) (by rfl) (by rfl) (by rfl) hr ?_
          refine hK _ _ ?_; clear hK K
          simp only [Act.put, List.setIfInBounds_toArray]
          refine wpAny_take (i := 9) (v := ?_) rfl (by kernel_rfl) (by kernel_rfl) (by kernel_rfl) (fun _ _ _ h => h) (Or.inl ⟨by rfl, ?_⟩) ?_
          rotate_left 1
          · intro w; go_simp; try with_reducible rfl
          refine wpAny_take (i := 10) (v := ?_) rfl (by kernel_rfl) (by kernel_rfl) (by kernel_rfl) (fun _ _ _ h => h) (Or.inl ⟨by rfl, ?_⟩) ?_
          rotate_left 1
          · intro w; go_simp; try with_reducible rfl
          refine wpAny_ready (rs := [11]) (by kernel_rfl) (by simp) ?_
          refine AllReady.cons rfl (fun K hK => ?_) ?_
          · go_simp
            refine hK _ _ ?_; clear hK K
            refine wpAny_done (by kernel_rfl) ?_ _
            clear hr c2 c2Y g2 gf
            go_wp2_with fail
            go_end0
            refine ⟨⟨_, rfl⟩, _, ⟨_, _, _, ?_, ?_, rfl⟩, HT.out.trans HF.out.2⟩
            · exact HF.out.1
            · simp
          exact AllReady.nil
        exact AllReady.nil
      exact AllReady.nil
    exact AllReady.nil
  exact AllReady.nil
set_option maxHeartbeats 4000000 in
set_option maxRecDepth 100000 in
theorem below_acts (L : List Xi) (C : List Pk) (q : Pk) (i : Nat) (hl : L.length = i + 1) (hi : i ≤ 999) (hd : C.length ≤ 998) :
    Acts 45 ⟨L, C ++ [q]⟩ ⟨L, C ++ [⟨1, L.length, [i]⟩, q]⟩ := fun w p S h => by
  obtain ⟨vc, vo, O, h, h2, rfl⟩ := h
  obtain ⟨A, v, rfl, rfl⟩ := snoc_map h2
  obtain ⟨A3, c3, hv3⟩ : ∃ A3 c3, v = .slice A3 q.g.length c3 := (h.gaps (q, v) (by simp)).slice
  obtain ⟨gl, hgl⟩ : ∃ gl, gl = q.g.length := ⟨_, rfl⟩
  rw [← hgl] at hv3
  subst hv3
  obtain ⟨g, cap, rfl, hgp, _⟩ := h.part
  have H1 := Lib.hid (remove_calls h (by simp at hd; omega))
  have H0 := Lib.hid h
  have HN := Lib.hid (And.intro hl (And.intro hi hd))
  clear h h2 hl hi hd hgl
  go_enter Try.func45, Try.ntmps45
  go_wp2_with fail
  refine (H1.out).mono ?_
  rintro e w1 ⟨rfl, h1, G1, m1⟩
  have ma := (Mod.refl [] w1).alloc (.cells #[.int .i64 (q.k : Int), .int .i64 (q.s : Int), .slice A3 gl c3] TP)
  have b2 : (w1.alloc (.cells #[.int .i64 (q.k : Int), .int .i64 (q.s : Int), .slice A3 gl c3] TP)).heap[w1.heap.size]? = some (.cells #[.int .i64 (q.k : Int), .int .i64 (q.s : Int), .slice A3 gl c3] TP (0, 0)) := (MapKept.heap_alloc w1 _).1
  have K2 := Lib.hid (gap_acts ⟨L, A.map Prod.fst⟩ i HN.out.1 HN.out.2.1 (by have := HN.out.2.2; show (A.map Prod.fst).length ≤ 1000; omega) _ p _ (Bl.of_bv (h1.far ma)))
  have HB := Lib.hid (And.intro h1 (And.intro G1 (And.intro m1 (And.intro ma b2))))
  clear h1 G1 m1 ma b2 H1
  go_wp2_with fail
  refine (K2.out).mono ?_
  rintro e w3 ⟨⟨v0, rfl⟩, S3, hB3, hT3⟩
  obtain ⟨h1, G1, m1, ma, b2⟩ := HB.out
  have hbox : w1.heap.size ∉ Sof p vc (.slice (some ⟨g, 0, none⟩) A.length cap) A := fun hx => by have := h1.lt _ hx; omega
  obtain ⟨b0, b1, b3, bf⟩ := three_at ((hT3.1.block w1.heap.size (by simp) hbox).trans b2)
  have hvS : ∀ b, (Value.slice A3 gl c3).ownBlock = some b → b ∉ Sof p vc (.slice (some ⟨g, 0, none⟩) A.length cap) A := fun b hb hx => by
    have kq := H0.out.gp (q, Value.slice A3 gl c3) (by simp)
    have hgg := H0.out.gg
    rw [List.pairwise_append] at hgg
    rcases mem_Sof.1 hx with hx | hx | hx | ⟨y, hy, hx⟩
    · subst hx; exact kq.1 hb
    · exact (kq.2 b hb).1 hx
    · exact (kq.2 b hb).2 hx
    · exact hgg.2.2 y hy (q, Value.slice A3 gl c3) (by simp) b hx hb
  have hvl : ∀ b, (Value.slice A3 gl c3).ownBlock = some b → b < w1.heap.size := fun b hb => (World.ownsRow.lt G1 b hb).2
  have hvS3 : ∀ b, (Value.slice A3 gl c3).ownBlock = some b → b ∉ S3 := fun b hb => hT3.apart (U := [b]) (fun x hx => by rw [List.mem_singleton.1 hx]; have := hvl b hb; simp; omega) (fun x hx => by rw [List.mem_singleton.1 hx]; exact hvS b hb) b (by simp)
  have G3 : Gr w3 (.slice A3 gl c3) q.g := row_mod (row_mod G1 ma (by simp)) hT3.1 hvS
  obtain ⟨vc3, vo3, O3, B3, P3, rfl⟩ := hB3
  have hM4 : Mod [] w3 (w3.alloc (.cells #[.int .i64 (q.k : Int), .int .i64 (q.s : Int), .slice A3 gl c3] TP)).drew := ((Mod.refl [] w3).alloc _).drew
  have hP3 : O3.length ≤ 1000 := by
    have := congrArg List.length P3
    simp [openB] at this
    have := HN.out.2.2
    simp at this
    omega
  obtain ⟨A', n', cp', w', hr, hm, hB, hS1, hS2⟩ := B3.open_app hM4 hP3 q (.slice A3 gl c3) (row_mod G3 hM4 (by simp)) hvS3 ⟨w3.heap.size, 0, none⟩ 1 (fun j u hj => part_new w3 (q, Value.slice A3 gl c3) TP j u hj)
  have k1 := B3.c1
  have k1Z : (w3.alloc (.cells #[.int .i64 (q.k : Int), .int .i64 (q.s : Int), .slice A3 gl c3] TP)).cell? ⟨p, 1, none⟩ = some vo3 := hM4.cell (by simp) k1
  have hpn : p ∉ vo3.ownBlock.toList := by simpa using B3.op
  have g0 := hm.cell (x := ⟨p, 1, none⟩) hpn (hM4.cell (by simp) k1)
  have gf0 := (hm.frozen (x := ⟨p, 1, none⟩) hpn (B3.far hM4).lp).trans ((B3.far hM4).f 1)
  replace hr : (appP 59 _).run Try.prog _ = .ok (.slice A' n' cp') w' := hr
  have hsub : ∀ x ∈ Sof p vc (.slice (some ⟨g, 0, none⟩) A.length cap) A, x ∈ Sof p vc (.slice (some ⟨g, 0, none⟩) (A ++ [(q, Value.slice A3 gl c3)]).length cap) (A ++ [(q, Value.slice A3 gl c3)]) := fun x hx => by
    rcases mem_Sof.1 hx with hx | hx | hx | ⟨y, hy, hx⟩
    · exact mem_Sof.2 (Or.inl hx)
    · exact mem_Sof.2 (Or.inr (Or.inl hx))
    · exact mem_Sof.2 (Or.inr (Or.inr (Or.inl hx)))
    · exact mem_Sof.2 (Or.inr (Or.inr (Or.inr ⟨y, by simp [hy], hx⟩)))
  have hF : Turn (Sof p vc (.slice (some ⟨g, 0, none⟩) (A ++ [(q, Value.slice A3 gl c3)]).length cap) (A ++ [(q, Value.slice A3 gl c3)])) (Sof p vc3 (.slice A' n' cp') (O3 ++ [(q, Value.slice A3 gl c3)])) w (w'.setCell ⟨p, 1, none⟩ (.slice A' n' cp')) := by
    have e1 : Turn (Sof p vc (.slice (some ⟨g, 0, none⟩) (A ++ [(q, Value.slice A3 gl c3)]).length cap) (A ++ [(q, Value.slice A3 gl c3)])) (Sof p vc3 vo3 O3) w w3 := by
      refine ⟨((m1.up fun x hx => ?_).trans (ma.up (by simp))).trans (hT3.1.up hsub), fun x hx => (hT3.2 x hx).imp (hsub x) fun hl => ?_⟩
      · rcases List.mem_cons.1 hx with rfl | hx
        · exact mem_Sof.2 (Or.inl rfl)
        · exact mem_Sof.2 (Or.inr (Or.inr (Or.inl (by rw [List.mem_singleton.1 hx]; rfl))))
      · have := m1.size; have := ma.size; omega
    refine ⟨e1.1.then hS1 e1.2, fun x hx => ?_⟩
    rcases hS2 x hx with hx | hx | hx
    · exact e1.2 x hx
    · exact Or.inl (mem_Sof.2 (Or.inr (Or.inr (Or.inr ⟨(q, Value.slice A3 gl c3), by simp, hx⟩))))
    · exact Or.inr (Nat.le_trans e1.1.size hx)
  have hP : A.map Prod.fst ++ [⟨1, L.length, [i]⟩, q] = (O3 ++ [(q, Value.slice A3 gl c3)]).map Prod.fst := by
    rw [List.map_append, ← P3]
    simp only [openB, HN.out.1]
    simp
  have HF := Lib.hid (And.intro hB (And.intro hF hP))
  clear hB hF hP hsub hS1 hS2 hpn hm hM4 hP3 P3 G3 hvS3 hvl hvS B3 hbox hT3 h1 G1 m1 ma b2 HB K2 H0
  have bf0 := bf 0
  clear bf
  go_upto_region 2 with fail
  go_region
  all_goals
    clear hr k1 k1Z g0 gf0 b0 b1 b3
    go_wp2_with fail
    go_end0
    exact ⟨⟨_, rfl⟩, _, ⟨_, _, _, HF.out.1, HF.out.2.2, rfl⟩, HF.out.2.1⟩
end Go.Proofs.Ytnclfopdgilgaaa
