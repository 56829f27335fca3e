/- Layer 14: rows that are copied, and one element more; one frame more for the program's own row. Condition: as each says. Layer 14 (package frame): New, Depth, Push. Condition: the block is frames (Fr). Layer 14 (package frame): Cut. Condition: the block is frames (Fr). Layer 14 (package frame): Top. Condition: the block is frames (Fr). Layer 14 (package frame): Pop; what ends a loop. Condition: the block is frames (Fr). -/
import Derived.Deep.Cut
import Derived.Deep.DeepCutAuto
import Derived.Deep.LoopGhost
import Derived.Deep.RegionHeld3
import Derived.Lib.MinMax
import Derived.Laws.EntriesVeiled
import Derived.Test.YtifnkmddinoneaaGreatDoorCBAO
import Derived.Lib.SliceRun
set_option maxRecDepth 100000
namespace Go.Proofs.YtifnkmddinoneaaGreatDoor.L14
open Go.RowKit
set_option linter.unusedVariables false

/-- The slice type t has elements of the type e, of k cells and y bytes. -/
structure El (t e : TypeId) (k y : Nat) : Prop where
  und : Tryz.prog.underlying t = some (.slice e)
  inf : ∃ i z, Tryz.prog.info? e = some i ∧ i.zero = some z ∧ i.size = k ∧ i.bytes = y ∧ z.cells.size = k
  pos : 0 < k
  few : y ≤ 1000
section
variable {t e : TypeId} {k y : Nat}
theorem new_cells (W : World) (cx : Array Value) (e : TypeId) : ∀ j u, cx.toList[j]? = some u → (W.alloc (.cells cx e)).cell? ((⟨W.heap.size, 0, none⟩ : Addr).add j) = some u := fun j u hj => by
  rw [WideShapes.add_plain, Nat.zero_add, World.cell?_alloc_new, ← hj]
  simp
end
theorem infoF : (Tryz.prog.info? TF).map (fun i => (i.zero, i.size, i.bytes)) = some (some (.agg zC), 6, 64) := by kernel_rfl
theorem elF : El 102 TF 6 64 := by
  obtain ⟨i, hi, hz0, hz1, hz2⟩ := info_parts infoF
  exact ⟨Tryz.underlying102, ⟨i, _, hi, hz0, hz1, hz2, rfl⟩, by decide, by decide⟩
def appF (ty : TypeId) (xs : Array Value) : Sem Value := Builtin.append_ #[102, 102] ty xs
@[go_sem ↓ high] theorem builtin_appF (ty : TypeId) (cs : Array Bool) (xs : Array Value) : builtin .append #[102, 102] ty cs xs = (do pure (.value (← appF ty xs))) := rfl
theorem step_appF {ops : Array Oper} {o : Oper} {a : Act} {w w' : World} {K : Act → World → Prop} {Q : Exit → Act → World → Prop} {E : Prop} (hgd : o.guard = none) (s x : Operand)
    (ho : o.op = .call { callee := .builtin .append, args := #[s, x], argTypes := #[102, 102] }) {v1 v2 r : Value} (h1 : a.eval s = v1) (h2 : a.eval x = v2)
    (hr : (appF o.type #[v1, v2]).run Tryz.prog w = .ok r w') (hK : K (a.put o.dst r) w') : if Region.wanted o (yielded ops a.tmps) = true then Oper.wp Tryz.prog o a w K Q else E := by
  have hw : Region.wanted o (yielded ops a.tmps) = true := by simp [Region.wanted, hgd]
  rw [if_pos hw]
  unfold Oper.wp execOp
  unfold appF at hr
  simp only [ho, resolve, invoke, builtin, Sem.run_bind, Sem.run_pure, Result.andThen_ok, List.map_toArray, List.map_cons, List.map_nil, h1, h2, hr]
  exact hK
abbrev cellsF (q : Fm) (s : Value) : Array Value := #[.int .i64 q.k, .int .i64 q.a, .int .i64 q.b, .int .i64 q.x, .int .i64 q.y, s]
theorem cellsF_one {q : Fm} {s : Value} (h : s.oneCell' = true) : ∀ u ∈ (cellsF q s).toList, u.oneCell' = true := by
  simp
  exact ⟨rfl, rfl, rfl, rfl, rfl, h⟩
section
variable {tB : TypeId} {w : World} {p : Nat} {A0 : Option Addr} {n cap0 : Nat} {O : List (Fm × Value)}
theorem Fv.app (h : Fv tB w p (.slice A0 n cap0) O) {Y : World} (m : Mod [] w Y) {q : Fm} {s' : Value} (hs : New w Y s' q.l) (hn : O.length < 128) (ty : TypeId) :
    ∃ A c w', (appF ty #[.slice A0 n cap0, .slice (some ⟨Y.heap.size, 0, none⟩) 1 1]).run Tryz.prog (Y.alloc (.cells (cellsF q s') TF)) = .ok (.slice A (n + 1) c) w' ∧ w'.cell? ⟨p, 0, none⟩ = some (.slice A0 n cap0) ∧ w'.frozen? ⟨p, 0, none⟩ = false ∧
      RowKit.Hid (Fv tB (w'.setCell ⟨p, 0, none⟩ (.slice A (n + 1) c)) p (.slice A (n + 1) c) (O ++ [(q, s')]) ∧ Turn (Sf p (.slice A0 n cap0) O) (Sf p (.slice A (n + 1) c) (O ++ [(q, s')])) w (w'.setCell ⟨p, 0, none⟩ (.slice A (n + 1) c))) := by
  obtain ⟨i, z, hi, hz, hsz, hby, hzs⟩ := elF.inf
  have hm0 : maxLen = 9223372036854775807 := rfl
  have hnn : n = O.length := by
    obtain ⟨A', c, e, _⟩ := h.slice
    injection e
  subst hnn
  have mY : Mod [] w (Y.alloc (.cells (cellsF q s') TF)) := m.trans (al_mod _ _)
  have hrow := row_mod h.row mY (by simp)
  have hcl : ∀ u ∈ flatG O, u.oneCell' = true := flatG_cells fun r hr => ((h.loc r hr).ls).one
  obtain ⟨v', w', h2, h3, h4, h5, h6⟩ := run_append_own_at (P := Tryz.prog) (w := Y.alloc (.cells (cellsF q s') TF)) 0 102 ty TF i z 6 64 elF.und hi hz hsz hby hzs (by decide) _ _ _ hrow ⟨Y.heap.size, 0, none⟩ 1 1 (cellsF q s').toList (by simp) (new_cells Y (cellsF q s') TF) (cellsF_one hs.1.ls.one) (by omega) (by omega) (Nat.zero_le _)
  have h3' := h3
  rcases h3.2 with ⟨e1, h0⟩ | ⟨g', cp', cur', e1, _⟩
  · omega
  · subst e1
    have hm := Mod.of_grown (S := (Value.slice A0 O.length cap0).ownBlock.toList) h4 (by simp)
    have hmm := (mY.up (T := (Value.slice A0 O.length cap0).ownBlock.toList) (by simp)).trans hm
    have hnp : ∀ g ∈ (Value.slice A0 O.length cap0).ownBlock.toList, g ≠ p ∧ g < w.heap.size := fun g hg => by
      have hg' : (Value.slice A0 O.length cap0).ownBlock = some g := by simpa using hg
      exact ⟨fun e => h.np.1 (by rw [hg', e]), h.lv g hg'⟩
    have hpS : p ∉ (Value.slice A0 O.length cap0).ownBlock.toList := fun hx => (hnp p hx).1 rfl
    have hlc : Lc w' s' q.l := (hs.1.far (al_mod Y (.cells (cellsF q s') TF))).mod hm fun g hg hx => by
      have := (hnp g hx).2; have := hs.2 g hg; omega
    have hr : w'.ownsRow 0 TF 6 (.slice (some ⟨g', 0, none⟩) (O.length + 1) cp') (O.length + 1) (flatG (O ++ [(q, s')])) := by
      rw [flatG_app, flatG_one]
      exact h3'
    have hv : (Value.slice (some ⟨g', 0, none⟩) (O.length + 1) cp').ownBlock = (Value.slice A0 O.length cap0).ownBlock ∨ ∃ g, (Value.slice (some ⟨g', 0, none⟩) (O.length + 1) cp').ownBlock = some g ∧ w.heap.size ≤ g ∧ s'.ownBlock ≠ some g := by
      rcases h6 with e2 | e2
      · exact Or.inl e2
      · refine Or.inr ⟨_, e2, ?_, fun e => ?_⟩
        · have := mY.size; omega
        · have h7 := hs.1.lt _ e
          rw [size_allocI] at h7
          omega
    obtain ⟨r1, r2⟩ := h.grown hmm hr hv hlc hs.2 hn
    exact ⟨_, _, w', h2, hmm.cell (x := ⟨p, 0, none⟩) hpS h.c0, (hmm.frozen (x := ⟨p, 0, none⟩) hpS h.lp).trans (h.f 0), Lib.hid ⟨r1, r2⟩⟩
end
end Go.Proofs.YtifnkmddinoneaaGreatDoor.L14
namespace Go.Proofs.YtifnkmddinoneaaGreatDoor.L14
open Go.RowKit
set_option linter.unusedVariables false

/-- Block p of w is the frames L (of the type tB), its blocks T. -/
def Fr (tB : TypeId) (w : World) (p : Nat) (T : List Nat) (L : List Fm) : Prop := ∃ v O, Fv tB w p v O ∧ L = O.map Prod.fst ∧ T = Sf p v O ∧ ∀ q ∈ L, q.l.length ≤ 1000
abbrev TP : TypeId := 104
theorem Fr.mod {tB : TypeId} {w w' : World} {p : Nat} {T S : List Nat} {L : List Fm} (h : Fr tB w p T L) (m : Mod S w w') (hS : ∀ x ∈ T, x ∉ S) : Fr tB w' p T L := by
  obtain ⟨v, O, h, rfl, rfl, hl⟩ := h
  exact ⟨v, O, h.mod m hS, rfl, rfl, hl⟩
theorem Fr.far {tB : TypeId} {w w' : World} {p : Nat} {T : List Nat} {L : List Fm} (h : Fr tB w p T L) (m : Mod [] w w') : Fr tB w' p T L := h.mod m (by simp)
theorem Fr.lt {tB : TypeId} {w : World} {p : Nat} {T : List Nat} {L : List Fm} (h : Fr tB w p T L) : ∀ x ∈ T, x < w.heap.size := by
  obtain ⟨v, O, h, rfl, rfl, _⟩ := h
  exact h.lt
theorem Fr.few {tB : TypeId} {w : World} {p : Nat} {T : List Nat} {L : List Fm} (h : Fr tB w p T L) : L.length ≤ 128 := by
  obtain ⟨v, O, h, rfl, rfl, _⟩ := h
  simpa using h.few
theorem Fr.small {tB : TypeId} {w : World} {p : Nat} {T : List Nat} {L : List Fm} (h : Fr tB w p T L) : ∀ q ∈ L, q.l.length ≤ 1000 := by
  obtain ⟨v, O, h, rfl, rfl, hl⟩ := h
  exact hl
theorem fr_empty (tB : TypeId) (w : World) : Fr tB (w.alloc (.cells #[.slice none 0 0] tB)) w.heap.size [w.heap.size] [] := by
  have hb := (MapKept.heap_alloc w (.cells #[.slice none 0 0] tB)).1
  exact ⟨.slice none 0 0, [], ⟨hb, World.ownsRow_nil _ _ _ _, by simp, by simp [Sf, lbs, Value.ownBlock], by simp⟩, rfl, rfl, by simp⟩
def Gives (tB : TypeId) (w : World) (p : Nat) (T : List Nat) (r : Value) (L : List Fm) (e : Ending) (w' : World) : Prop := e = .returned r ∧ ∃ T', Fr tB w' p T' L ∧ Turn T T' w w'
theorem new_calls (w : World) : Calls Tryz.prog 49 #[] w fun e w' => ∃ p, e = .returned (Pt p) ∧ Fr TP w' p [p] [] ∧ Mod [] w w' ∧ w.heap.size ≤ p := by
  go_enter Tryz.func49, Tryz.ntmps49
  go_wp2
  go_ret
  exact ⟨w.heap.size, rfl, fr_empty TP w, al_mod _ _, Nat.le_refl _⟩
theorem depth_calls {w : World} {p : Nat} {T : List Nat} {L : List Fm} (h : Fr TP w p T L) (n : Nat) (hn : L.length = n) : Calls Tryz.prog 22 #[Pt p] w fun e w' => e = .returned (.int .i64 (n : Int)) ∧ w = w' := by
  obtain ⟨v, O, h, rfl, rfl, _⟩ := h
  rw [List.length_map] at hn
  obtain ⟨A0, cap0, rfl, _⟩ := h.slice
  have k0 := h.c0
  rw [hn] at k0
  clear h hn
  go_enter Tryz.func22, Tryz.ntmps22
  go_wp2_with fail
  go_ret
  exact ⟨rfl, rfl⟩
set_option maxHeartbeats 8000000 in
theorem push_calls {w : World} {p : Nat} {T : List Nat} {L : List Fm} (h : Fr TP w p T L) {q : Fm} {s : Value} (hs : Ls w s q.l) (hb : q.l.length ≤ 1000) : Calls Tryz.prog 18 #[Pt p, frV q s] w (Gives TP w p T (.int .i64 (pushE L)) (pushL L q)) := by
  obtain ⟨v, O, h, rfl, rfl, hsm⟩ := h
  have HS := Lib.hid (fun r (hr : r ∈ O.map Prod.fst ++ [q]) => (List.mem_append.1 hr).elim (hsm r) (fun hr => by rw [List.mem_singleton.1 hr]; exact hb) : ∀ r ∈ O.map Prod.fst ++ [q], r.l.length ≤ 1000)
  obtain ⟨A0, cap0, rfl, _⟩ := h.slice
  obtain ⟨n, hn⟩ : ∃ n, n = O.length := ⟨_, rfl⟩
  rw [← hn] at h ⊢
  have mA := al_mod w (.cells (cellsF q s) TF)
  have hA := h.far mA
  have c0 := hA.c0
  unfold Gives
  by_cases hf : 128 ≤ O.length
  · have e1 : pushE (O.map Prod.fst) = -5 := by unfold pushE; rw [if_pos (by simpa using hf)]
    have e2 : pushL (O.map Prod.fst) q = O.map Prod.fst := by unfold pushL; rw [if_pos (by simpa using hf)]
    have hfI : (128 : Int) ≤ (n : Int) := by omega
    have HN := Lib.hid (And.intro hA mA)
    rw [e1, e2]
    clear h hs hb hn hA mA e1 e2 hf hsm
    unfold frV
    go_enter Tryz.func18, Tryz.ntmps18
    go_wp2_with fail
    go_ret
    exact ⟨rfl, _, ⟨_, _, HN.out.1, rfl, rfl, fun r hr => HS.out r (List.mem_append.2 (Or.inl hr))⟩, (Turn.refl _ _).far HN.out.2⟩
  · have e1 : pushE (O.map Prod.fst) = 0 := by unfold pushE; rw [if_neg (by simpa using hf)]
    have e2 : ∀ s' : Value, pushL (O.map Prod.fst) q = (O ++ [(q, s')]).map Prod.fst := fun s' => by unfold pushL; rw [if_neg (by simpa using hf)]; simp
    have hfI : ¬ (128 : Int) ≤ (n : Int) := by omega
    obtain ⟨W1, hW1⟩ : ∃ W1, W1 = w.alloc (.cells (cellsF q s) TF) := ⟨_, rfl⟩
    rw [← hW1] at mA hA c0
    obtain ⟨x0, x1, x2, x3, x4, x5, _⟩ := six_at (w := W1) (b := w.heap.size) (by rw [hW1]; exact (MapKept.heap_alloc w _).1)
    have md : Mod [] W1 W1.drew := (Mod.refl [] W1).drew
    have H1 := Lib.hid (copied_calls (hs.far (mA.trans md)) (by omega))
    have KP := Lib.hid (fun (W : World) (hm : Mod [] W1.drew W) (q' : Fm) (s' : Value) => (And.intro ((hA.far (md.trans hm)).c0) ((hA.far ((md.trans hm).trans (al_mod W (.cells (cellsF q' s') TF)))).c0) : W.cell? ⟨p, 0, none⟩ = some (.slice A0 n cap0) ∧ (W.alloc (.cells (cellsF q' s') TF)).cell? ⟨p, 0, none⟩ = some (.slice A0 n cap0)))
    have PT := Lib.hid (fun (W : World) (hm : Mod [] W1.drew W) (s' : Value) (hs' : New W1.drew W s' q.l) => (by
      obtain ⟨A, c, w', r1, r2, r3, r4⟩ := h.app ((mA.trans md).trans hm) (q := q) (s' := s') ⟨hs'.1, fun g hg => Nat.le_trans (mA.trans md).size (hs'.2 g hg)⟩ (by omega) 102
      exact ⟨A, c, w', r1, r2, r3, r4⟩ : ∃ A c w', (appF 102 #[.slice A0 n cap0, .slice (some ⟨W.heap.size, 0, none⟩) 1 1]).run Tryz.prog (W.alloc (.cells (cellsF q s') TF)) = .ok (.slice A (n + 1) c) w' ∧ w'.cell? ⟨p, 0, none⟩ = some (.slice A0 n cap0) ∧ w'.frozen? ⟨p, 0, none⟩ = false ∧
        RowKit.Hid (Fv TP (w'.setCell ⟨p, 0, none⟩ (.slice A (n + 1) c)) p (.slice A (n + 1) c) (O ++ [(q, s')]) ∧ Turn (Sf p (.slice A0 n cap0) O) (Sf p (.slice A (n + 1) c) (O ++ [(q, s')])) w (w'.setCell ⟨p, 0, none⟩ (.slice A (n + 1) c)))))
    have E2 := Lib.hid e2
    have c0' : (w.alloc (.cells #[.int .i64 q.k, .int .i64 q.a, .int .i64 q.b, .int .i64 q.x, .int .i64 q.y, s] TF)).cell? ⟨p, 0, none⟩ = some (.slice A0 n cap0) := by rw [← hW1]; exact c0
    have HW := Lib.hid hW1
    rw [e1]
    clear h hs hb hn hA mA e1 e2 hf hsm md hW1
    unfold frV at H1 ⊢
    go_enter Tryz.func18, Tryz.ntmps18
    go_upto_region 5 with fail
    have hW1 := HW.out
    dsimp only [cellsF] at hW1
    rw [← hW1]
    clear hW1 HW c0'
    refine wp_region_any (by kernel_rfl) ?_
    try (change wpAny _ _ _ _ _ _ _ (World.drew _))
    refine wpAny_take (i := 0) (v := ?_) rfl (by kernel_rfl) (by kernel_rfl) (by kernel_rfl) (fun _ _ _ h => h) (Or.inl ⟨by rfl, ?_⟩) ?_
    rotate_left 1
    · intro w; go_simp; try with_reducible rfl
    refine wpAny_take (i := 1) (v := ?_) rfl (by kernel_rfl) (by kernel_rfl) (by kernel_rfl) (fun _ _ _ h => h) (Or.inl ⟨by rfl, ?_⟩) ?_
    rotate_left 1
    · intro w; go_simp; try with_reducible rfl
    refine wpAny_take (i := 2) (v := ?_) rfl (by kernel_rfl) (by kernel_rfl) (by kernel_rfl) (fun _ _ _ h => h) (Or.inl ⟨by rfl, ?_⟩) ?_
    rotate_left 1
    · intro w; go_simp; try with_reducible rfl
    refine wpAny_take (i := 3) (v := ?_) rfl (by kernel_rfl) (by kernel_rfl) (by kernel_rfl) (fun _ _ _ h => h) (Or.inl ⟨by rfl, ?_⟩) ?_
    rotate_left 1
    · intro w; go_simp; try with_reducible rfl
    refine wpAny_ready (rs := [4, 5]) (by kernel_rfl) (by simp) ?_
    refine AllReady.cons rfl (fun K hK => ?_) ?_
    · go_simp
      refine hK _ _ ?_; clear hK K
      refine wpAny_ready (rs := [5]) (by kernel_rfl) (by simp) ?_
      refine AllReady.cons rfl (fun K hK => ?_) ?_
      · go_simp
        refine hK _ _ ?_; clear hK K
        refine wpAny_ready (rs := [6]) (by kernel_rfl) (by simp) ?_
        refine AllReady.cons rfl (fun K hK => ?_) ?_
        · go_simp; refine (H1.out).mono ?_; rintro e w9 ⟨s', rfl, hn, hm⟩; obtain ⟨A5, c5, w5, e5, f5, g5, F5⟩ := PT.out w9 hm s' hn; obtain ⟨p9, pa⟩ := KP.out w9 hm q s'; obtain ⟨A9, c9, rfl, _⟩ := hn.1.ls; clear hn hm
          refine hK _ _ ?_; clear hK K
          refine wpAny_ready (rs := [7]) (by kernel_rfl) (by simp) ?_
          refine AllReady.cons rfl (fun K hK => ?_) ?_
          · go_simp
            refine hK _ _ ?_; clear hK K
            refine wpAny_ready (rs := [8]) (by kernel_rfl) (by simp) ?_
            refine AllReady.cons rfl (fun K hK => ?_) ?_
            · refine step_appF (by rfl) (.tmp 19) (.tmp 22) (by rfl) (by rfl) (by rfl) e5 ?_
              refine hK _ _ ?_; clear hK K
              simp only [Act.put, List.setIfInBounds_toArray]
              refine wpAny_take (i := 9) (v := ?_) rfl (by kernel_rfl) (by kernel_rfl) (by kernel_rfl) (fun _ _ _ h => h) (Or.inl ⟨by rfl, ?_⟩) ?_
              rotate_left 1
              · intro w; go_simp; try with_reducible rfl
              refine wpAny_take (i := 10) (v := ?_) rfl (by kernel_rfl) (by kernel_rfl) (by kernel_rfl) (fun _ _ _ h => h) (Or.inl ⟨by rfl, ?_⟩) ?_
              rotate_left 1
              · intro w; go_simp; try with_reducible rfl
              refine wpAny_ready (rs := [11]) (by kernel_rfl) (by simp) ?_
              refine AllReady.cons rfl (fun K hK => ?_) ?_
              · go_simp
                refine hK _ _ ?_; clear hK K
                refine wpAny_done (by kernel_rfl) ?_ _
                clear e5 f5 g5 p9 pa
                go_wp2_with fail
                go_ret
                rw [E2.out]
                exact ⟨rfl, _, ⟨_, _, F5.out.1, rfl, rfl, by simpa using HS.out⟩, F5.out.2⟩
              exact AllReady.nil
            exact AllReady.nil
          exact AllReady.nil
        exact AllReady.nil
      exact AllReady.nil
    refine AllReady.cons rfl (fun K hK => ?_) ?_
    · go_simp
      refine hK _ _ ?_; clear hK K
      refine wpAny_ready (rs := [4, 6]) (by kernel_rfl) (by simp) ?_
      refine AllReady.cons rfl (fun K hK => ?_) ?_
      · go_simp
        refine hK _ _ ?_; clear hK K
        refine wpAny_ready (rs := [6]) (by kernel_rfl) (by simp) ?_
        refine AllReady.cons rfl (fun K hK => ?_) ?_
        · go_simp; refine (H1.out).mono ?_; rintro e w9 ⟨s', rfl, hn, hm⟩; obtain ⟨A5, c5, w5, e5, f5, g5, F5⟩ := PT.out w9 hm s' hn; obtain ⟨p9, pa⟩ := KP.out w9 hm q s'; obtain ⟨A9, c9, rfl, _⟩ := hn.1.ls; clear hn hm
          refine hK _ _ ?_; clear hK K
          refine wpAny_ready (rs := [7]) (by kernel_rfl) (by simp) ?_
          refine AllReady.cons rfl (fun K hK => ?_) ?_
          · go_simp
            refine hK _ _ ?_; clear hK K
            refine wpAny_ready (rs := [8]) (by kernel_rfl) (by simp) ?_
            refine AllReady.cons rfl (fun K hK => ?_) ?_
            · refine step_appF (by rfl) (.tmp 19) (.tmp 22) (by rfl) (by rfl) (by rfl) e5 ?_
              refine hK _ _ ?_; clear hK K
              simp only [Act.put, List.setIfInBounds_toArray]
              refine wpAny_take (i := 9) (v := ?_) rfl (by kernel_rfl) (by kernel_rfl) (by kernel_rfl) (fun _ _ _ h => h) (Or.inl ⟨by rfl, ?_⟩) ?_
              rotate_left 1
              · intro w; go_simp; try with_reducible rfl
              refine wpAny_take (i := 10) (v := ?_) rfl (by kernel_rfl) (by kernel_rfl) (by kernel_rfl) (fun _ _ _ h => h) (Or.inl ⟨by rfl, ?_⟩) ?_
              rotate_left 1
              · intro w; go_simp; try with_reducible rfl
              refine wpAny_ready (rs := [11]) (by kernel_rfl) (by simp) ?_
              refine AllReady.cons rfl (fun K hK => ?_) ?_
              · go_simp
                refine hK _ _ ?_; clear hK K
                refine wpAny_done (by kernel_rfl) ?_ _
                clear e5 f5 g5 p9 pa
                go_wp2_with fail
                go_ret
                rw [E2.out]
                exact ⟨rfl, _, ⟨_, _, F5.out.1, rfl, rfl, by simpa using HS.out⟩, F5.out.2⟩
              exact AllReady.nil
            exact AllReady.nil
          exact AllReady.nil
        exact AllReady.nil
      refine AllReady.cons rfl (fun K hK => ?_) ?_
      · go_simp; refine (H1.out).mono ?_; rintro e w9 ⟨s', rfl, hn, hm⟩; obtain ⟨A5, c5, w5, e5, f5, g5, F5⟩ := PT.out w9 hm s' hn; obtain ⟨p9, pa⟩ := KP.out w9 hm q s'; obtain ⟨A9, c9, rfl, _⟩ := hn.1.ls; clear hn hm
        refine hK _ _ ?_; clear hK K
        refine wpAny_ready (rs := [4, 7]) (by kernel_rfl) (by simp) ?_
        refine AllReady.cons rfl (fun K hK => ?_) ?_
        · go_simp
          refine hK _ _ ?_; clear hK K
          refine wpAny_ready (rs := [7]) (by kernel_rfl) (by simp) ?_
          refine AllReady.cons rfl (fun K hK => ?_) ?_
          · go_simp
            refine hK _ _ ?_; clear hK K
            refine wpAny_ready (rs := [8]) (by kernel_rfl) (by simp) ?_
            refine AllReady.cons rfl (fun K hK => ?_) ?_
            · refine step_appF (by rfl) (.tmp 19) (.tmp 22) (by rfl) (by rfl) (by rfl) e5 ?_
              refine hK _ _ ?_; clear hK K
              simp only [Act.put, List.setIfInBounds_toArray]
              refine wpAny_take (i := 9) (v := ?_) rfl (by kernel_rfl) (by kernel_rfl) (by kernel_rfl) (fun _ _ _ h => h) (Or.inl ⟨by rfl, ?_⟩) ?_
              rotate_left 1
              · intro w; go_simp; try with_reducible rfl
              refine wpAny_take (i := 10) (v := ?_) rfl (by kernel_rfl) (by kernel_rfl) (by kernel_rfl) (fun _ _ _ h => h) (Or.inl ⟨by rfl, ?_⟩) ?_
              rotate_left 1
              · intro w; go_simp; try with_reducible rfl
              refine wpAny_ready (rs := [11]) (by kernel_rfl) (by simp) ?_
              refine AllReady.cons rfl (fun K hK => ?_) ?_
              · go_simp
                refine hK _ _ ?_; clear hK K
                refine wpAny_done (by kernel_rfl) ?_ _
                clear e5 f5 g5 p9 pa
                go_wp2_with fail
                go_ret
                rw [E2.out]
                exact ⟨rfl, _, ⟨_, _, F5.out.1, rfl, rfl, by simpa using HS.out⟩, F5.out.2⟩
              exact AllReady.nil
            exact AllReady.nil
          exact AllReady.nil
        refine AllReady.cons rfl (fun K hK => ?_) ?_
        · go_simp
          refine hK _ _ ?_; clear hK K
          refine wpAny_ready (rs := [4]) (by kernel_rfl) (by simp) ?_
          refine AllReady.cons rfl (fun K hK => ?_) ?_
          · go_simp
            refine hK _ _ ?_; clear hK K
            refine wpAny_ready (rs := [8]) (by kernel_rfl) (by simp) ?_
            refine AllReady.cons rfl (fun K hK => ?_) ?_
            · refine step_appF (by rfl) (.tmp 19) (.tmp 22) (by rfl) (by rfl) (by rfl) e5 ?_
              refine hK _ _ ?_; clear hK K
              simp only [Act.put, List.setIfInBounds_toArray]
              refine wpAny_take (i := 9) (v := ?_) rfl (by kernel_rfl) (by kernel_rfl) (by kernel_rfl) (fun _ _ _ h => h) (Or.inl ⟨by rfl, ?_⟩) ?_
              rotate_left 1
              · intro w; go_simp; try with_reducible rfl
              refine wpAny_take (i := 10) (v := ?_) rfl (by kernel_rfl) (by kernel_rfl) (by kernel_rfl) (fun _ _ _ h => h) (Or.inl ⟨by rfl, ?_⟩) ?_
              rotate_left 1
              · intro w; go_simp; try with_reducible rfl
              refine wpAny_ready (rs := [11]) (by kernel_rfl) (by simp) ?_
              refine AllReady.cons rfl (fun K hK => ?_) ?_
              · go_simp
                refine hK _ _ ?_; clear hK K
                refine wpAny_done (by kernel_rfl) ?_ _
                clear e5 f5 g5 p9 pa
                go_wp2_with fail
                go_ret
                rw [E2.out]
                exact ⟨rfl, _, ⟨_, _, F5.out.1, rfl, rfl, by simpa using HS.out⟩, F5.out.2⟩
              exact AllReady.nil
            exact AllReady.nil
          exact AllReady.nil
        exact AllReady.nil
      exact AllReady.nil
    exact AllReady.nil
end Go.Proofs.YtifnkmddinoneaaGreatDoor.L14
namespace Go.Proofs.YtifnkmddinoneaaGreatDoor.L14
open Go.RowKit
set_option linter.unusedVariables false

theorem size_frame (W : World) : (Go.sizeOf TF).run Tryz.prog W = .ok 6 W := by kernel_rfl
def zeros (n : Nat) : List Value := (Builtin.zeroCells zC n).toList
theorem zeros_len (n : Nat) : (zeros n).length = n * 6 := by simp [zeros, Builtin.zeroCells]
theorem zeros_one (n : Nat) : ∀ u ∈ zeros n, u.oneCell' = true := fun u hu => by
  simp only [zeros, Builtin.zeroCells, Array.toList_map, List.mem_map] at hu
  obtain ⟨i, _, rfl⟩ := hu
  have hi : i % zC.size < 6 := Nat.mod_lt _ (by decide)
  generalize i % zC.size = j at hi
  have : j = 0 ∨ j = 1 ∨ j = 2 ∨ j = 3 ∨ j = 4 ∨ j = 5 := by omega
  rcases this with rfl | rfl | rfl | rfl | rfl | rfl <;> rfl
theorem run_clear6 (W : World) (g o c c' : Nat) (hc0 : 0 < c) (hc : ∀ j, j < c * 6 → (W.cell? ⟨g, o + j, none⟩).isSome = true) (hf : ∀ j, j < c * 6 → W.frozen? ⟨g, o + j, none⟩ = false) (ty : TypeId) :
    (Builtin.clear_ #[102] ty #[.slice (some ⟨g, o, none⟩) c c']).run Tryz.prog W = .ok (.tuple #[]) (W.setCells g o (zeros c)) := by
  have hst := run_storeCells_cells (P := Tryz.prog) g o (zeros c) 0 W (by simpa [zeros_len] using hc) (by simpa [zeros_len] using hf) (zeros_one c)
  simp only [Nat.add_zero] at hst
  obtain ⟨m, rfl⟩ : ∃ m, c = m + 1 := ⟨c - 1, by omega⟩
  have hz : (Value.agg zC).cells = zC := rfl
  unfold zeros at hst ⊢
  simp [Builtin.clear_, run_underlying Tryz.underlying102, hz, hst]
theorem row_sets {e : TypeId} {k g n cap : Nat} {xs : List Value} : ∀ (vs : List Value) (o : Nat) {w : World}, w.ownsRow 0 e k (.slice (some ⟨g, 0, none⟩) n cap) n xs → xs.length ≤ o → (w.setCells g o vs).ownsRow 0 e k (.slice (some ⟨g, 0, none⟩) n cap) n xs
  | [], _, _, h, _ => h
  | v :: r, o, w, h, ho => by
    have h1 := (World.ownsRow.stored h o v).1
    rw [List.set_eq_of_length_le ho] at h1
    exact row_sets r (o + 1) (w := w.setCell ⟨g, o, none⟩ v) (by simpa using h1) (by omega)
theorem addr_zeroF (y : Addr) : y.add 0 = y := by
  unfold Addr.add
  split <;> simp_all
theorem upto_frames (A : Option Addr) (len cap k : Nat) (hk : k ≤ cap) (W : World) :
    (Instr.sliceAt 102 (.slice A len cap) none (some (.int .i64 (k : Int))) none).run Tryz.prog W = .ok (.slice A k cap) W := by
  have ht := Tryz.underlying102
  have he : Tryz.prog.elem 102 = TF := by simp [Program.elem, ht]
  have ht' : Tryz.prog.underlying 102 = some (.slice (Tryz.prog.elem 102)) := by rw [he]; exact ht
  rw [run_sliceAt_slice W 102 _ _ _ _ ht', run_slice_h W 102 A len cap ht' .i64 k (by omega) (by omega), he, size_frame]
  show Result.ok (sliced A 0 (k : Int).toNat cap 6) W = _
  unfold sliced
  have e1 : (if cap = 0 then A else A.map fun x => x.add (0 * 6)) = A := by
    split
    · rfl
    · cases A with
      | none => rfl
      | some x => show some (x.add (0 * 6)) = _; rw [Nat.zero_mul, addr_zeroF]
  rw [e1, Int.toNat_natCast, Nat.sub_zero, Nat.sub_zero]
theorem from_frames (A : Option Addr) (n cap x : Nat) (hx : x ≤ n) (hn : n ≤ cap) : ∃ A' c', (∀ W, (Instr.sliceAt 102 (.slice A n cap) (some (.int .i64 (x : Int))) none none).run Tryz.prog W = .ok (.slice A' (n - x) c') W) ∧ (x < n → ∀ g, A = some ⟨g, 0, none⟩ → A' = some ⟨g, x * 6, none⟩) := by
  have ht := Tryz.underlying102
  have he : Tryz.prog.elem 102 = TF := by simp [Program.elem, ht]
  have ht' : Tryz.prog.underlying 102 = some (.slice (Tryz.prog.elem 102)) := by rw [he]; exact ht
  refine ⟨if cap = x then A else A.map fun y => y.add (x * 6), cap - x, fun W => ?_, ?_⟩
  · rw [run_sliceAt_slice W 102 _ _ _ _ ht', run_slice_l W 102 A n cap ht' .i64 x (by omega) (by omega), he, size_frame]
    rfl
  · intro hlt g hg
    subst hg
    have : cap ≠ x := by omega
    simp [this, WideShapes.add_plain]
theorem clear_frames {W : World} {A A' : Option Addr} {n cap c' x c : Nat} {O : List (Fm × Value)} (rv : W.ownsRow 0 TF 6 (.slice A n cap) n (flatG O)) (hx : x ≤ n) (hc : c = n - x) (hA : x < n → ∀ g, A = some ⟨g, 0, none⟩ → A' = some ⟨g, x * 6, none⟩) (ty : TypeId) :
    ∃ W3, (Builtin.clear_ #[102] ty #[.slice A' c c']).run Tryz.prog W = .ok (.tuple #[]) W3 ∧ W3.ownsRow 0 TF 6 (.slice A x cap) x (flatG (O.take x)) ∧ Mod (Value.slice A n cap).ownBlock.toList W W3 := by
  have hl : (flatG O).length = n * 6 := rv.1
  have hlO : O.length = n := by rw [flatG_len] at hl; omega
  have hcut := row_cut rv x hx
  rw [flatG_take] at hcut
  by_cases h0 : x < n
  · obtain ⟨g, rfl⟩ : ∃ g, A = some ⟨g, 0, none⟩ := by
      rcases rv.2 with ⟨e, h⟩ | ⟨g, cp, cur, e, _⟩
      · omega
      · injection e with e1; exact ⟨g, e1⟩
    have e1 := hA h0 g rfl
    subst e1
    refine ⟨W.setCells g (x * 6) (zeros c), run_clear6 W g (x * 6) c c' (by omega) (fun j hj => ?_) (fun j hj => rv.frozenAt _) ty, row_sets (zeros c) (x * 6) hcut (by rw [flatG_len]; simp; omega), (Mod.refl _ W).sets (by simp [Value.ownBlock]) _ _⟩
    rw [rv.cellAt (x * 6 + j) (by omega)]
    have : x * 6 + j < (flatG O).length := by omega
    simp [this]
  · obtain rfl : x = n := by omega
    obtain rfl : c = 0 := by omega
    refine ⟨W, ?_, hcut, Mod.refl _ _⟩
    cases A' <;> simp [Builtin.clear_, run_underlying Tryz.underlying102]
def clrF (ty : TypeId) (xs : Array Value) : Sem Value := Builtin.clear_ #[102] ty xs
@[go_sem ↓ high] theorem builtin_clrF (ty : TypeId) (cs : Array Bool) (xs : Array Value) : builtin .clear #[102] ty cs xs = (do pure (.value (← clrF ty xs))) := rfl
set_option maxHeartbeats 2000000 in
theorem cut_calls {w : World} {p : Nat} {T : List Nat} {L : List Fm} (h : Fr TP w p T L) (m : Int) : Calls Tryz.prog 254 #[Pt p, .int .i64 m] w fun e w' => (∃ r, e = .returned r) ∧ ∃ T', Fr TP w' p T' (cutL m L) ∧ Turn T T' w w' := by
  obtain ⟨v, O, h, rfl, rfl, hsm⟩ := h
  have HS := Lib.hid (fun r (hr : r ∈ cutL m (O.map Prod.fst)) => hsm r (List.mem_of_mem_take hr) : ∀ r ∈ cutL m (O.map Prod.fst), r.l.length ≤ 1000)
  obtain ⟨A0, cap0, rfl, _, hle, _⟩ := h.slice
  obtain ⟨n, hn⟩ : ∃ n, n = O.length := ⟨_, rfl⟩
  rw [← hn] at h hle ⊢
  obtain ⟨x, hx⟩ : ∃ x : Nat, x = min m.toNat n := ⟨_, rfl⟩
  have hxn : x ≤ n := by omega
  have hcut : cutL m (O.map Prod.fst) = (O.take x).map Prod.fst := by
    unfold cutL
    rw [← List.map_take]
    by_cases h1 : m.toNat ≤ n
    · rw [show x = m.toNat by omega]
    · rw [List.take_of_length_le (by omega), List.take_of_length_le (by omega)]
  have hmin : min (max m 0) (n : Int) = (x : Int) := by omega
  obtain ⟨A', c', hfr, hA'⟩ := from_frames A0 n cap0 x hxn (by omega)
  obtain ⟨c, hc⟩ : ∃ c, c = n - x := ⟨_, rfl⟩
  rw [← hc] at hfr
  have hrow : w.ownsRow 0 TF 6 (.slice A0 n cap0) n (flatG O) := by have := h.row; rw [← hn] at this; exact this
  obtain ⟨W3, hclr, hrow3, hm3⟩ := clear_frames (c' := c') hrow hxn hc hA' 0
  have nb : p ∉ (Value.slice A0 n cap0).ownBlock.toList := fun hx => h.np.1 (by simpa using hx)
  have c0 := h.c0
  have c3 := hm3.cell (x := ⟨p, 0, none⟩) nb c0
  have f3 := (hm3.frozen (x := ⟨p, 0, none⟩) nb h.lp).trans (h.f 0)
  have hup := upto_frames A0 n cap0 x (by omega)
  obtain ⟨r1, r2⟩ := h.shrunk hm3 hrow3 (by omega)
  have HR := Lib.hid (And.intro r1 r2)
  have hclr' : (clrF 0 #[.slice A' c c']).run Tryz.prog w = .ok (.tuple #[]) W3 := hclr
  rw [hcut] at HS ⊢
  clear h hsm hle hx hxn hcut hA' hrow hclr hrow3 hm3 nb r1 r2 hc hn
  go_enter Tryz.func254, Tryz.ntmps254
  go_wp2_with fail
  go_end0
  exact ⟨⟨_, rfl⟩, _, ⟨_, _, HR.out.1, rfl, rfl, HS.out⟩, HR.out.2⟩
end Go.Proofs.YtifnkmddinoneaaGreatDoor.L14
namespace Go.Proofs.YtifnkmddinoneaaGreatDoor.L14
open Go.RowKit
set_option linter.unusedVariables false

def topV (L : List Fm) : Fm := L.getLast?.getD zF
theorem topV_snoc (A : List Fm) (q : Fm) : topV (A ++ [q]) = q := by simp [topV]
theorem snoc_map {O : List (Fm × Value)} (h : O ≠ []) : ∃ A q, O = A ++ [q] := by
  rcases List.eq_nil_or_concat O with e | ⟨A, q, e⟩
  · exact absurd e h
  · exact ⟨A, q, by simpa using e⟩
def Tops (w : World) (q : Fm) (b : Value) (e : Ending) (w' : World) : Prop := ∃ s', e = .returned (.tuple #[frV q s', b]) ∧ New w w' s' q.l ∧ Mod [] w w'
theorem box_of {w w' : World} {c : Array Value} {t : TypeId} (m : Mod [] (w.alloc (.cells c t)) w') : w'.heap[w.heap.size]? = some (.cells c t (0, 0)) :=
  (m.block _ (by rw [size_allocI]; omega) (by simp)).trans (MapKept.heap_alloc w (.cells c t)).1
theorem box_ret {w w' : World} {b : Nat} (h : w'.heap[b]? = some (.cells zC TF (0, 0))) (hb : w.heap.size ≤ b) (m : Mod [] w w') {q : Fm} {s : Value} (hs : New w w' s q.l) (hn : s.ownBlock ≠ some b) :
    (sixSet w' b (.int .i64 q.k) (.int .i64 q.a) (.int .i64 q.b) (.int .i64 q.x) (.int .i64 q.y) s).heap[b]? = some (.cells (cellsF q s) TF (0, 0)) ∧ New w (sixSet w' b (.int .i64 q.k) (.int .i64 q.a) (.int .i64 q.b) (.int .i64 q.x) (.int .i64 q.y) s) s q.l ∧ Mod [] w (sixSet w' b (.int .i64 q.k) (.int .i64 q.a) (.int .i64 q.b) (.int .i64 q.x) (.int .i64 q.y) s) := by
  obtain ⟨h1, h2⟩ := six_set (v0 := .int .i64 q.k) (v1 := .int .i64 q.a) (v2 := .int .i64 q.b) (v3 := .int .i64 q.x) (v4 := .int .i64 q.y) (v5 := s) h
  exact ⟨h1, ⟨hs.1.mod h2 fun g hg hx => hn (by rw [hg]; simpa using hx), hs.2⟩, m.far1 h2 hb⟩
set_option maxHeartbeats 2000000 in
theorem top_nil {w : World} {p : Nat} {T : List Nat} (h : Fr TP w p T []) : Calls Tryz.prog 21 #[Pt p] w fun e w' => e = .returned (.tuple #[.agg zC, .bool false]) ∧ Mod [] w w' := by
  have mA := al_mod w (.cells zC TF)
  have hb := box_of (Mod.refl [] (w.alloc (.cells zC TF)))
  obtain ⟨d0, d1, d2, d3, d4, d5, g0, g1, g2, g3, g4, g5⟩ := six_at hb
  have H1 := Lib.hid (depth_calls (h.far mA) 0 rfl)
  have HB := Lib.hid (And.intro hb mA)
  clear mA hb h
  go_enter Tryz.func21, Tryz.ntmps21
  go_wp2_with fail
  refine (H1.out).mono ?_
  rintro e w' ⟨rfl, rfl⟩
  go_wp2_with fail
  exact bodyPost_ret (res_fr2 Tryz.results21 rfl HB.out.1) rfl ⟨rfl, HB.out.2⟩
set_option maxHeartbeats 4000000 in
theorem top_snoc {w : World} {p : Nat} {T : List Nat} {L : List Fm} {q : Fm} (h : Fr TP w p T (L ++ [q])) : Calls Tryz.prog 21 #[Pt p] w (Tops w q (.bool true)) := by
  have hq : q.l.length ≤ 1000 := h.small q (by simp)
  obtain ⟨W1, hW1⟩ : ∃ W1, W1 = w.alloc (.cells zC TF) := ⟨_, rfl⟩
  have mA := al_mod w (.cells zC TF)
  rw [← hW1] at mA
  have mD := mA.drew
  have hb : ∀ W, Mod [] W1.drew W → W.heap[w.heap.size]? = some (.cells zC TF (0, 0)) := fun W m => box_of (by rw [← hW1]; exact ((Mod.refl [] W1).drew).trans m)
  obtain ⟨n, hn⟩ : ∃ n : Nat, (L ++ [q]).length = n := ⟨_, rfl⟩
  have H1 := Lib.hid (depth_calls (h.far mA) n hn)
  have hA := h.far mD
  obtain ⟨v, O, hv, hO, rfl, _⟩ := hA
  obtain ⟨A, r, rfl⟩ := snoc_map (O := O) (by rintro rfl; simp at hO)
  have hr : L = A.map Prod.fst ∧ q = r.1 := by simpa using hO
  obtain ⟨rfl, rfl⟩ := hr
  obtain ⟨g, cap, rfl, hgp, hc, hfz, hle, hcap⟩ := hv.at_
  have hlen : (A ++ [r]).length = n := by simpa using hn
  rw [hlen] at hv hle
  obtain ⟨m, hm⟩ : ∃ m, m = A.length := ⟨_, rfl⟩
  rw [← hm] at hc
  have hnm : n = m + 1 := by rw [← hlen, hm]; simp
  obtain ⟨⟨k, a, b, x, y, l⟩, s⟩ := r
  have HS := Lib.hid ((hv.loc (⟨k, a, b, x, y, l⟩, s) (by simp)).ls)
  have H2 := Lib.hid (copied_calls HS.out (by dsimp only at hq ⊢; omega))
  obtain ⟨A', c', hs', _⟩ := HS.out
  obtain ⟨ln, hln⟩ : ∃ ln, ln = l.length := ⟨_, rfl⟩
  dsimp only at hs'
  rw [← hln] at hs'
  subst hs'
  have hpl : p < w.heap.size := h.lt p (mem_Sf.2 (Or.inl rfl))
  have hgl : g < w.heap.size := h.lt g (mem_Sf.2 (Or.inr (Or.inl rfl)))
  have c0 := hv.c0
  have r0 : W1.drew.cell? ⟨g, m * 6, none⟩ = some (.int .i64 k) := hc 0 (by omega)
  have r1 : W1.drew.cell? ⟨g, m * 6 + 1, none⟩ = some (.int .i64 a) := hc 1 (by omega)
  have r2 : W1.drew.cell? ⟨g, m * 6 + 2, none⟩ = some (.int .i64 b) := hc 2 (by omega)
  have r3 : W1.drew.cell? ⟨g, m * 6 + 3, none⟩ = some (.int .i64 x) := hc 3 (by omega)
  have r4 : W1.drew.cell? ⟨g, m * 6 + 4, none⟩ = some (.int .i64 y) := hc 4 (by omega)
  have r5 : W1.drew.cell? ⟨g, m * 6 + 5, none⟩ = some (.slice A' ln c') := hc 5 (by omega)
  have hn1 : (n : Int) - 1 = (m : Int) := by omega
  have hw1 : IntKind.i64.wrap ((n : Int) - 1) = (m : Int) := by rw [IntKind.wrap_i64]; omega
  have hw2 : IntKind.i64.wrap (m : Int) = (m : Int) := by rw [IntKind.wrap_i64]; omega
  have hm0 : (0 : Int) ≤ (m : Int) := by omega
  have hn0 : ¬ (n : Int) = 0 := by omega
  have hn0' : ¬ n = 0 := by omega
  have hmn : (m : Int) < (n : Int) := by omega
  have hmn' : m < n := by omega
  have KP := Lib.hid (fun (W : World) (hm : Mod [] W1.drew W) => hm.cell (x := ⟨p, 0, none⟩) (by simp) c0)
  have HB := Lib.hid hb
  have HZ := Lib.hid (show w.heap.size < W1.drew.heap.size by rw [hW1]; show w.heap.size < (w.alloc _).heap.size; rw [size_allocI]; omega)
  have HM := Lib.hid mD
  have HW := Lib.hid hW1
  unfold Tops frV
  unfold frV at H2
  dsimp only at H2 ⊢
  clear h hn hv hc hlen hO hm hb mD mA hq hle hln hfz HS hnm hW1 hpl hgl
  go_enter Tryz.func21, Tryz.ntmps21
  go_wp2_with fail
  have hW1 := HW.out
  dsimp only [zC] at hW1
  rw [← hW1]
  clear hW1 HW
  refine (H1.out).mono ?_
  rintro e w' ⟨rfl, rfl⟩
  go_upto_region 3 with fail
  -- WALK
  refine wp_region_any (by kernel_rfl) ?_
  try (change wpAny _ _ _ _ _ _ _ (World.drew _))
  refine wpAny_take (i := 0) (v := ?_) rfl (by kernel_rfl) (by kernel_rfl) (by kernel_rfl) (fun _ _ _ h => h) (Or.inl ⟨by rfl, ?_⟩) ?_
  rotate_left 1
  · intro w; go_simp; try with_reducible rfl
  refine wpAny_take (i := 1) (v := ?_) rfl (by kernel_rfl) (by kernel_rfl) (by kernel_rfl) (fun _ _ _ h => h) (Or.inl ⟨by rfl, ?_⟩) ?_
  rotate_left 1
  · intro w; go_simp; try with_reducible rfl
  refine wpAny_take (i := 2) (v := ?_) rfl (by kernel_rfl) (by kernel_rfl) (by kernel_rfl) (fun _ _ _ h => h) (Or.inl ⟨by rfl, ?_⟩) ?_
  rotate_left 1
  · intro w; go_simp; try with_reducible rfl
  refine wpAny_take (i := 4) (v := ?_) rfl (by kernel_rfl) (by kernel_rfl) (by kernel_rfl) (fun _ _ _ h => h) (Or.inl ⟨by rfl, ?_⟩) ?_
  rotate_left 1
  · intro w; go_simp; try with_reducible rfl
  refine wpAny_take (i := 5) (v := ?_) rfl (by kernel_rfl) (by kernel_rfl) (by kernel_rfl) (fun _ _ _ h => h) (Or.inl ⟨by rfl, ?_⟩) ?_
  rotate_left 1
  · intro w; go_simp; try with_reducible rfl
  refine wpAny_take (i := 6) (v := ?_) rfl (by kernel_rfl) (by kernel_rfl) (by kernel_rfl) (fun _ _ _ h => h) (Or.inl ⟨by rfl, ?_⟩) ?_
  rotate_left 1
  · intro w; go_simp; try with_reducible rfl
  refine wpAny_ready (rs := [3, 7]) (by kernel_rfl) (by simp) ?_
  refine AllReady.cons rfl (fun K hK => ?_) ?_
  · go_simp
    refine hK _ _ ?_; clear hK K
    refine wpAny_ready (rs := [7]) (by kernel_rfl) (by simp) ?_
    refine AllReady.cons rfl (fun K hK => ?_) ?_
    · go_simp
      refine hK _ _ ?_; clear hK K
      refine wpAny_ready (rs := [8]) (by kernel_rfl) (by simp) ?_
      refine AllReady.cons rfl (fun K hK => ?_) ?_
      · go_simp
        refine hK _ _ ?_; clear hK K
        refine wpAny_take (i := 9) (v := ?_) rfl (by kernel_rfl) (by kernel_rfl) (by kernel_rfl) (fun _ _ _ h => h) (Or.inl ⟨by rfl, ?_⟩) ?_
        rotate_left 1
        · intro w; go_simp; try with_reducible rfl
        refine wpAny_take (i := 10) (v := ?_) rfl (by kernel_rfl) (by kernel_rfl) (by kernel_rfl) (fun _ _ _ h => h) (Or.inl ⟨by rfl, ?_⟩) ?_
        rotate_left 1
        · intro w; go_simp; try with_reducible rfl
        refine wpAny_ready (rs := [11]) (by kernel_rfl) (by simp) ?_
        refine AllReady.cons rfl (fun K hK => ?_) ?_
        · go_simp
          refine hK _ _ ?_; clear hK K
          refine wpAny_ready (rs := [12]) (by kernel_rfl) (by simp) ?_
          refine AllReady.cons rfl (fun K hK => ?_) ?_
          · go_simp; refine (H2.out).mono ?_; rintro e w9 ⟨s', rfl, hn, hm9⟩; obtain ⟨A9, c9, rfl, _⟩ := hn.1.ls; have e9 := HB.out w9 hm9; obtain ⟨d0, d1, d2, d3, d4, d5, g0, g1, g2, g3, g4, g5⟩ := six_at e9; have E9 := Lib.hid (And.intro e9 (And.intro hn hm9)); clear hn e9 hm9
            refine hK _ _ ?_; clear hK K
            refine wpAny_ready (rs := [13]) (by kernel_rfl) (by simp) ?_
            refine AllReady.cons rfl (fun K hK => ?_) ?_
            · go_simp
              refine hK _ _ ?_; clear hK K
              refine wpAny_take (i := 14) (v := ?_) rfl (by kernel_rfl) (by kernel_rfl) (by kernel_rfl) (fun _ _ _ h => h) (Or.inl ⟨by rfl, ?_⟩) ?_
              rotate_left 1
              · intro w; go_simp; try with_reducible rfl
              refine wpAny_done (by kernel_rfl) ?_ _
              go_wp2_with fail
              obtain ⟨k1, k2, k3⟩ := box_ret E9.out.1 (Nat.le_refl _) (HM.out.trans E9.out.2.2) (q := ⟨k, a, b, x, y, l⟩) ⟨E9.out.2.1.1, fun g hg => Nat.le_trans HM.out.size (E9.out.2.1.2 g hg)⟩ (fun hx => by have h1 := E9.out.2.1.2 _ hx; have h2 := HZ.out; omega)
              exact bodyPost_ret (res_fr2 Tryz.results21 rfl k1) rfl ⟨_, rfl, k2, k3⟩
            exact AllReady.nil
          exact AllReady.nil
        exact AllReady.nil
      exact AllReady.nil
    exact AllReady.nil
  refine AllReady.cons rfl (fun K hK => ?_) ?_
  · go_simp
    refine hK _ _ ?_; clear hK K
    refine wpAny_ready (rs := [3, 8]) (by kernel_rfl) (by simp) ?_
    refine AllReady.cons rfl (fun K hK => ?_) ?_
    · go_simp
      refine hK _ _ ?_; clear hK K
      refine wpAny_ready (rs := [8]) (by kernel_rfl) (by simp) ?_
      refine AllReady.cons rfl (fun K hK => ?_) ?_
      · go_simp
        refine hK _ _ ?_; clear hK K
        refine wpAny_take (i := 9) (v := ?_) rfl (by kernel_rfl) (by kernel_rfl) (by kernel_rfl) (fun _ _ _ h => h) (Or.inl ⟨by rfl, ?_⟩) ?_
        rotate_left 1
        · intro w; go_simp; try with_reducible rfl
        refine wpAny_take (i := 10) (v := ?_) rfl (by kernel_rfl) (by kernel_rfl) (by kernel_rfl) (fun _ _ _ h => h) (Or.inl ⟨by rfl, ?_⟩) ?_
        rotate_left 1
        · intro w; go_simp; try with_reducible rfl
        refine wpAny_ready (rs := [11]) (by kernel_rfl) (by simp) ?_
        refine AllReady.cons rfl (fun K hK => ?_) ?_
        · go_simp
          refine hK _ _ ?_; clear hK K
          refine wpAny_ready (rs := [12]) (by kernel_rfl) (by simp) ?_
          refine AllReady.cons rfl (fun K hK => ?_) ?_
          · go_simp; refine (H2.out).mono ?_; rintro e w9 ⟨s', rfl, hn, hm9⟩; obtain ⟨A9, c9, rfl, _⟩ := hn.1.ls; have e9 := HB.out w9 hm9; obtain ⟨d0, d1, d2, d3, d4, d5, g0, g1, g2, g3, g4, g5⟩ := six_at e9; have E9 := Lib.hid (And.intro e9 (And.intro hn hm9)); clear hn e9 hm9
            refine hK _ _ ?_; clear hK K
            refine wpAny_ready (rs := [13]) (by kernel_rfl) (by simp) ?_
            refine AllReady.cons rfl (fun K hK => ?_) ?_
            · go_simp
              refine hK _ _ ?_; clear hK K
              refine wpAny_take (i := 14) (v := ?_) rfl (by kernel_rfl) (by kernel_rfl) (by kernel_rfl) (fun _ _ _ h => h) (Or.inl ⟨by rfl, ?_⟩) ?_
              rotate_left 1
              · intro w; go_simp; try with_reducible rfl
              refine wpAny_done (by kernel_rfl) ?_ _
              go_wp2_with fail
              obtain ⟨k1, k2, k3⟩ := box_ret E9.out.1 (Nat.le_refl _) (HM.out.trans E9.out.2.2) (q := ⟨k, a, b, x, y, l⟩) ⟨E9.out.2.1.1, fun g hg => Nat.le_trans HM.out.size (E9.out.2.1.2 g hg)⟩ (fun hx => by have h1 := E9.out.2.1.2 _ hx; have h2 := HZ.out; omega)
              exact bodyPost_ret (res_fr2 Tryz.results21 rfl k1) rfl ⟨_, rfl, k2, k3⟩
            exact AllReady.nil
          exact AllReady.nil
        exact AllReady.nil
      exact AllReady.nil
    refine AllReady.cons rfl (fun K hK => ?_) ?_
    · go_simp
      refine hK _ _ ?_; clear hK K
      refine wpAny_take (i := 9) (v := ?_) rfl (by kernel_rfl) (by kernel_rfl) (by kernel_rfl) (fun _ _ _ h => h) (Or.inl ⟨by rfl, ?_⟩) ?_
      rotate_left 1
      · intro w; go_simp; try with_reducible rfl
      refine wpAny_ready (rs := [3]) (by kernel_rfl) (by simp) ?_
      refine AllReady.cons rfl (fun K hK => ?_) ?_
      · go_simp
        refine hK _ _ ?_; clear hK K
        refine wpAny_take (i := 10) (v := ?_) rfl (by kernel_rfl) (by kernel_rfl) (by kernel_rfl) (fun _ _ _ h => h) (Or.inl ⟨by rfl, ?_⟩) ?_
        rotate_left 1
        · intro w; go_simp; try with_reducible rfl
        refine wpAny_ready (rs := [11]) (by kernel_rfl) (by simp) ?_
        refine AllReady.cons rfl (fun K hK => ?_) ?_
        · go_simp
          refine hK _ _ ?_; clear hK K
          refine wpAny_ready (rs := [12]) (by kernel_rfl) (by simp) ?_
          refine AllReady.cons rfl (fun K hK => ?_) ?_
          · go_simp; refine (H2.out).mono ?_; rintro e w9 ⟨s', rfl, hn, hm9⟩; obtain ⟨A9, c9, rfl, _⟩ := hn.1.ls; have e9 := HB.out w9 hm9; obtain ⟨d0, d1, d2, d3, d4, d5, g0, g1, g2, g3, g4, g5⟩ := six_at e9; have E9 := Lib.hid (And.intro e9 (And.intro hn hm9)); clear hn e9 hm9
            refine hK _ _ ?_; clear hK K
            refine wpAny_ready (rs := [13]) (by kernel_rfl) (by simp) ?_
            refine AllReady.cons rfl (fun K hK => ?_) ?_
            · go_simp
              refine hK _ _ ?_; clear hK K
              refine wpAny_take (i := 14) (v := ?_) rfl (by kernel_rfl) (by kernel_rfl) (by kernel_rfl) (fun _ _ _ h => h) (Or.inl ⟨by rfl, ?_⟩) ?_
              rotate_left 1
              · intro w; go_simp; try with_reducible rfl
              refine wpAny_done (by kernel_rfl) ?_ _
              go_wp2_with fail
              obtain ⟨k1, k2, k3⟩ := box_ret E9.out.1 (Nat.le_refl _) (HM.out.trans E9.out.2.2) (q := ⟨k, a, b, x, y, l⟩) ⟨E9.out.2.1.1, fun g hg => Nat.le_trans HM.out.size (E9.out.2.1.2 g hg)⟩ (fun hx => by have h1 := E9.out.2.1.2 _ hx; have h2 := HZ.out; omega)
              exact bodyPost_ret (res_fr2 Tryz.results21 rfl k1) rfl ⟨_, rfl, k2, k3⟩
            exact AllReady.nil
          exact AllReady.nil
        exact AllReady.nil
      exact AllReady.nil
    exact AllReady.nil
  exact AllReady.nil
  -- END
end Go.Proofs.YtifnkmddinoneaaGreatDoor.L14
namespace Go.Proofs.YtifnkmddinoneaaGreatDoor.L14
open Go.RowKit
set_option linter.unusedVariables false

/-- What a call gives that tells a frame and turns the frames: the frame's locals are none of the frames' that are then. -/
def Gone (tB : TypeId) (w : World) (p : Nat) (T : List Nat) (q : Fm) (r : Value) (L : List Fm) (e : Ending) (w' : World) : Prop :=
  ∃ s', e = .returned (.tuple #[frV q s', r]) ∧ Lc w' s' q.l ∧ ∃ T', Fr tB w' p T' L ∧ Turn T T' w w' ∧ ∀ g, s'.ownBlock = some g → (g ∈ T ∨ w.heap.size ≤ g) ∧ g ∉ T'
theorem Fr.above {tB : TypeId} {w : World} {p : Nat} {T : List Nat} {L : List Fm} (h : Fr tB w p T L) {x : Nat} (hx : w.heap.size ≤ x) : x ∉ T := fun hT => by have := h.lt x hT; omega
theorem topK_some {k : Int} {A : List Fm} {q : Fm} (h : q.k = k) : popL k (A ++ [q]) = A ∧ errK k (-6) (A ++ [q]) = 0 := by
  unfold popL errK
  rw [topK_snoc, if_pos h]
  simp
theorem topK_no {k : Int} {L : List Fm} (h : topK k L = none) : popL k L = L ∧ errK k (-6) L = -6 := by
  unfold popL errK
  rw [h]
  simp
theorem box_zero {w : World} {b : Nat} (h : w.heap[b]? = some (.cells zC TF (0, 0))) : (sixSet w b (.int .i64 0) (.int .i64 0) (.int .i64 0) (.int .i64 0) (.int .i64 0) (.slice none 0 0)).heap[b]? = some (.cells zC TF (0, 0)) ∧ Mod [b] w (sixSet w b (.int .i64 0) (.int .i64 0) (.int .i64 0) (.int .i64 0) (.int .i64 0) (.slice none 0 0)) := six_set h
set_option maxHeartbeats 2000000 in
theorem pop_nil {w : World} {p : Nat} {T : List Nat} (h : Fr TP w p T []) (k : Int) : Calls Tryz.prog 116 #[Pt p, .int .i64 k] w (Gone TP w p T zF (.int .i64 (-6)) []) := by
  have mA := al_mod w (.cells zC TF)
  have H1 := Lib.hid (top_nil (h.far mA))
  have HM := Lib.hid (And.intro h mA)
  clear mA h
  go_enter Tryz.func116, Tryz.ntmps116
  go_wp2_with fail
  refine (H1.out).mono ?_
  rintro e w1 ⟨rfl, hm⟩
  have e0 := box_of hm
  have h0 := (Array.getElem?_eq_some_iff.1 e0).1
  have m2 := al_mod w1 (.cells zC TF)
  have b2 := box_of (Mod.refl [] (w1.alloc (.cells zC TF)))
  obtain ⟨c0, c1, c2, c3, c4, c5, f0, f1, f2, f3, f4, f5⟩ := six_at b2
  have e0' := (m2.block _ h0 (by simp)).trans e0
  obtain ⟨d0, d1, d2, d3, d4, d5, g0, g1, g2, g3, g4, g5⟩ := six_at e0'
  obtain ⟨z1, z2⟩ := box_zero e0'
  have HE := Lib.hid (And.intro z1 (((HM.out.2.trans hm).trans m2).far1 z2 (Nat.le_refl _)))
  clear e0 b2 m2 e0' h0 hm z1 z2
  go_wp2_with fail
  exact bodyPost_ret (res_fr2 Tryz.results116 rfl HE.out.1) rfl ⟨.slice none 0 0, rfl, Lc.nil _, T, HM.out.1.far HE.out.2, (Turn.refl T w).far HE.out.2, fun g hg => by cases hg⟩
theorem box_next {w w1 : World} (e0 : w1.heap[w.heap.size]? = some (.cells zC TF (0, 0))) (m : Mod [] w w1) (q : Fm) (s' : Value) :
    (w1.alloc (.cells (cellsF q s') TF)).heap[w1.heap.size]? = some (.cells (cellsF q s') TF (0, 0)) ∧ (w1.alloc (.cells (cellsF q s') TF)).heap[w.heap.size]? = some (.cells zC TF (0, 0)) ∧ Mod [] w (w1.alloc (.cells (cellsF q s') TF)) ∧ w.heap.size ≠ w1.heap.size := by
  have h0 := (Array.getElem?_eq_some_iff.1 e0).1
  exact ⟨(MapKept.heap_alloc w1 _).1, ((al_mod w1 (.cells (cellsF q s') TF)).block _ h0 (by simp)).trans e0, m.trans (al_mod _ _), by omega⟩
set_option maxHeartbeats 4000000 in
theorem pop_wrong {w : World} {p : Nat} {T : List Nat} {L : List Fm} {q : Fm} (h : Fr TP w p T (L ++ [q])) (k : Int) (hk : q.k ≠ k) : Calls Tryz.prog 116 #[Pt p, .int .i64 k] w (Gone TP w p T zF (.int .i64 (-6)) (L ++ [q])) := by
  have mA := al_mod w (.cells zC TF)
  have H1 := Lib.hid (top_snoc (h.far mA))
  have HM := Lib.hid (And.intro h mA)
  obtain ⟨k0, a, b, x, y, l⟩ := q
  have hk1 : (k0 == k) = false := by simpa using hk
  unfold Tops frV at H1
  dsimp only at H1
  clear mA h hk
  go_enter Tryz.func116, Tryz.ntmps116
  go_wp2_with fail
  refine (H1.out).mono ?_
  rintro e w1 ⟨s', rfl, hn, hm⟩
  obtain ⟨A', c', rfl, _⟩ := hn.1.ls
  obtain ⟨b1, b2, m2, hne⟩ := box_next (box_of hm) (HM.out.2.trans hm) ⟨k0, a, b, x, y, l⟩ (.slice A' l.length c')
  obtain ⟨c0, c1, c2, c3, c4, c5, f0, f1, f2, f3, f4, f5⟩ := six_at b1
  obtain ⟨d0, d1, d2, d3, d4, d5, g0, g1, g2, g3, g4, g5⟩ := six_at b2
  obtain ⟨z1, z2⟩ := box_zero b2
  have HX := Lib.hid (And.intro z1 (m2.far1 z2 (Nat.le_refl _)))
  clear b1 b2 m2 hm hn z1 z2
  dsimp only at c0 c1 c2 c3 c4 c5 f0 f1 f2 f3 f4 f5 d0 d1 d2 d3 d4 d5 g0 g1 g2 g3 g4 g5 HX
  go_wp2_with fail
  exact bodyPost_ret (res_fr2 Tryz.results116 rfl HX.out.1) rfl ⟨.slice none 0 0, rfl, Lc.nil _, T, HM.out.1.far HX.out.2, (Turn.refl T w).far HX.out.2, fun g hg => by cases hg⟩
set_option maxHeartbeats 4000000 in
theorem pop_right {w : World} {p : Nat} {T : List Nat} {L : List Fm} {q : Fm} (h : Fr TP w p T (L ++ [q])) : Calls Tryz.prog 116 #[Pt p, .int .i64 q.k] w (Gone TP w p T q (.int .i64 0) L) := by
  have mA := al_mod w (.cells zC TF)
  have H1 := Lib.hid (top_snoc (h.far mA))
  obtain ⟨n, hn⟩ : ∃ n, n = L.length := ⟨_, rfl⟩
  have hcut : cutL (n : Int) (L ++ [q]) = L := by unfold cutL; rw [Int.toNat_natCast, hn]; simp
  obtain ⟨N, hN⟩ : ∃ N : Nat, N = (L ++ [q]).length := ⟨_, rfl⟩
  have hN1 : (N : Int) - 1 = (n : Int) := by rw [hN, hn]; simp
  have hcap : (N : Int) ≤ 128 := by have := h.few; omega
  have HK := Lib.hid (fun (W : World) (m : Mod [] w W) => ((fun (hF : Fr TP W p T (L ++ [q])) => (by
    obtain ⟨v, O, hv, hO, _⟩ := hF
    obtain ⟨A, cap, e, _⟩ := hv.slice
    refine ⟨A, cap, ?_⟩
    rw [hv.c0, e, hN, hO, List.length_map] : ∃ A cap, W.cell? ⟨p, 0, none⟩ = some (.slice A N cap))) (h.far m)))
  have HC := Lib.hid (fun (W : World) (m : Mod [] w W) => (cut_calls (h.far m) (n : Int)))
  have HM := Lib.hid (And.intro h mA)
  obtain ⟨k, a, b, x, y, l⟩ := q
  rw [hcut] at HC
  unfold Tops frV at H1
  dsimp only at H1 ⊢
  clear mA h hcut hn hN
  go_enter Tryz.func116, Tryz.ntmps116
  go_wp2_with fail
  refine (H1.out).mono ?_
  rintro e w1 ⟨s', rfl, hn, hm⟩
  obtain ⟨A', c', rfl, _⟩ := hn.1.ls
  obtain ⟨b1, b2, m2, hne⟩ := box_next (box_of hm) (HM.out.2.trans hm) ⟨k, a, b, x, y, l⟩ (.slice A' l.length c')
  obtain ⟨c0, c1, c2, c3, c4, c5, f0, f1, f2, f3, f4, f5⟩ := six_at b1
  obtain ⟨A8, cap8, p0⟩ := HK.out _ m2
  have HB := Lib.hid (And.intro b1 (And.intro b2 (And.intro m2 (And.intro hn hm))))
  have HCC := Lib.hid (HC.out _ m2)
  clear b1 b2 m2 hm hn HK HC
  dsimp only at c0 c1 c2 c3 c4 c5 f0 f1 f2 f3 f4 f5 p0 HCC HB
  go_wp2_with fail
  refine (HCC.out).mono ?_
  rintro e w3 ⟨⟨r0, rfl⟩, T', hF, hT⟩
  obtain ⟨b1, b2, m2, hn, hm⟩ := HB.out
  have hB0 : w.heap.size ∉ T := HM.out.1.above (Nat.le_refl _)
  have hB1 : w1.heap.size ∉ T := HM.out.1.above ((HM.out.2.trans hm).size)
  have b1' := (hT.1.block _ (Array.getElem?_eq_some_iff.1 b1).1 hB1).trans b1
  have b2' := (hT.1.block _ (Array.getElem?_eq_some_iff.1 b2).1 hB0).trans b2
  clear c0 c1 c2 c3 c4 c5 f0 f1 f2 f3 f4 f5 p0
  obtain ⟨c0, c1, c2, c3, c4, c5, f0, f1, f2, f3, f4, f5⟩ := six_at b1'
  obtain ⟨d0, d1, d2, d3, d4, d5, g0, g1, g2, g3, g4, g5⟩ := six_at b2'
  obtain ⟨z1, z2⟩ := six_set (v0 := .int .i64 k) (v1 := .int .i64 a) (v2 := .int .i64 b) (v3 := .int .i64 x) (v4 := .int .i64 y) (v5 := .slice A' l.length c') b2'
  have hg : ∀ g, (Value.slice A' l.length c').ownBlock = some g → w.heap.size + 1 ≤ g ∧ g < (w1.alloc (.cells (cellsF ⟨k, a, b, x, y, l⟩ (.slice A' l.length c')) TF)).heap.size := fun g hg => by
    have h1 := hn.2 g hg
    have h2 := hn.1.lt g hg
    rw [size_allocI] at h1
    rw [size_allocI]
    omega
  have hT' : ∀ u ∈ T', u ∈ T ∨ (w1.alloc (.cells (cellsF ⟨k, a, b, x, y, l⟩ (.slice A' l.length c')) TF)).heap.size ≤ u := hT.2
  have hlc := (hn.1.far (al_mod w1 (.cells (cellsF ⟨k, a, b, x, y, l⟩ (.slice A' l.length c')) TF))).mod hT.1 (fun g hg' hx => HM.out.1.above (by have := (hg g hg').1; omega) hx)
  have hlc2 := hlc.mod z2 (fun g hg' hx => by have := (hg g hg').1; have : g = w.heap.size := by simpa using hx
                                              omega)
  have hB0' : w.heap.size ∉ T' := fun hx => (hT' _ hx).elim hB0 fun hl => by rw [size_allocI] at hl; have := (HM.out.2.trans hm).size; omega
  have HE := Lib.hid (And.intro z1 (And.intro hlc2 (And.intro (hF.mod z2 (fun x hx => by simp; rintro rfl; exact hB0' hx)) (And.intro ((hT.ahead m2).1.then z2 (fun x hx => Or.inr (by rw [List.mem_singleton.1 hx]; exact Nat.le_refl _))) (And.intro hT' (And.intro hg m2))))))
  clear b1 b2 b1' b2' z1 z2 hF hT hT' hlc hlc2 hg hB0 hB1 hB0' hn hm m2 HB HCC
  go_wp2_with fail
  obtain ⟨z1, z2, z3, z4, z5, z6, m2⟩ := HE.out
  exact bodyPost_ret (res_fr2 Tryz.results116 rfl z1) rfl ⟨_, rfl, z2, T', z3, ⟨z4, fun u hx => (z5 u hx).imp id fun hl => Nat.le_trans m2.size hl⟩, fun g hg => ⟨Or.inr (by have := (z6 g hg).1; omega), fun hx => (z5 g hx).elim (fun h => HM.out.1.above (by have := (z6 g hg).1; omega) h) fun hl => by have := (z6 g hg).2; omega⟩⟩
end Go.Proofs.YtifnkmddinoneaaGreatDoor.L14
