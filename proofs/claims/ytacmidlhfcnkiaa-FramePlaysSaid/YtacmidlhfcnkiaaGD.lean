/- Layer 14: rows that are copied, and one element more; one frame more for the program's own row. Condition: as each says. -/
import Derived.Test.YtacmidlhfcnkiaaGC
import Derived.Deep.Cut
import Derived.Deep.DeepCutAuto
import Derived.Deep.LoopGhost
import Derived.Deep.RegionHeld3
import Derived.Lib.MinMax
import Derived.Laws.EntriesVeiled
namespace Go.Proofs.Ytacmidlhfcnkiaa
open Go.RowKit
set_option linter.unusedVariables false

/-- The slice type t has elements of the type e, of k cells and y bytes. -/
structure El (t e : TypeId) (k y : Nat) : Prop where
  und : Try.prog.underlying t = some (.slice e)
  inf : ∃ i z, Try.prog.info? e = some i ∧ i.zero = some z ∧ i.size = k ∧ i.bytes = y ∧ z.cells.size = k
  pos : 0 < k
  few : y ≤ 1000
/-- v is a row of n elements in w' that was made since W; nothing older turned. -/
structure Grew (e : TypeId) (k : Nat) (W w' : World) (v : Value) (n : Nat) (xs : List Value) : Prop where
  m : Mod [] W w'
  row : w'.ownsRow 0 e k v n xs
  own : ∃ g, v.ownBlock = some g ∧ W.heap.size ≤ g
theorem Grew.far {e : TypeId} {k : Nat} {W a b : World} {v : Value} {n : Nat} {xs : List Value} (h : Grew e k W a v n xs) (m : Mod [] a b) : Grew e k W b v n xs := ⟨h.m.trans m, row_mod h.row m (by simp), h.own⟩
theorem lit_row (e : TypeId) (k : Nat) (W : World) : (W.alloc (.cells #[] e)).ownsRow 0 e k (.slice (some ⟨W.heap.size, 0, none⟩) 0 0) 0 [] := by
  have := World.ownsRow_lit (base := 0) (e := e) (size := k) W #[] 0 (Nat.zero_le _) (Nat.zero_le _) (by simp)
  simpa using this
section
variable {t e : TypeId} {k y : Nat}
theorem El.base (E : El t e k y) {W Y : World} (m : Mod [] W Y) {b : Nat} (hb : W.heap.size ≤ b) (hr : Y.ownsRow 0 e k (.slice (some ⟨b, 0, none⟩) 0 0) 0 []) {v : Value} {n : Nat} {xs : List Value} (h : W.ownsRow 0 e k v n xs) (hx : ∀ u ∈ xs, u.oneCell' = true) (hn : n ≤ 1000) (ty : TypeId) :
    ∃ A c w', (Builtin.append_ #[t, t] ty #[.slice (some ⟨b, 0, none⟩) 0 0, v]).run Try.prog Y = .ok (.slice A n c) w' ∧ Grew e k W w' (.slice A n c) n xs ∧ Mod [b] Y w' := by
  obtain ⟨i, z, hi, hz, hs, hby, hzs⟩ := E.inf
  have hm0 : maxLen = 9223372036854775807 := rfl
  have hY := row_mod h m (by simp)
  rcases hY.2 with ⟨rfl, h0⟩ | ⟨g, cap, cur, rfl, hrest⟩
  · subst h0
    have hxs : xs = [] := List.eq_nil_of_length_eq_zero (by rw [h.1]; simp)
    subst hxs
    exact ⟨_, _, Y, run_append_owned_none (P := Try.prog) (w := Y) 0 t ty e i k E.und hi _ _ _ hr, ⟨m, hr, b, rfl, hb⟩, Mod.refl _ _⟩
  · have hby2 : (0 + n) * y ≤ 140737488355328 := Nat.le_trans (Nat.mul_le_mul (show 0 + n ≤ 1000 by omega) E.few) (by decide)
    obtain ⟨v', w', h1, h2, h3, h4, h5⟩ := run_append_own_at (P := Try.prog) (w := Y) 0 t ty e i z k y E.und hi hz hs hby hzs E.pos _ _ _ hr ⟨g, 0, none⟩ n cap xs hY.1 (fun j u hj => World.ownsRow.cells hY rfl j u hj) hx (by omega) hby2 (Nat.zero_le _)
    rw [Nat.zero_add, List.nil_append] at h2
    have hm := Mod.of_grown (S := [b]) h3 (by simp [Value.ownBlock])
    have h2' := h2
    rcases h2.2 with ⟨e1, _⟩ | ⟨g', cp, cur', e1, _⟩
    · have := (h4.1 e1).1
      cases this
    · subst e1
      refine ⟨_, _, w', h1, ⟨m.then hm fun x hx => ?_, h2', g', rfl, ?_⟩, hm⟩
      · rw [List.mem_singleton.1 hx]; exact Or.inr hb
      · rcases h5 with e2 | e2
        · have : g' = b := by simpa [Value.ownBlock] using e2
          omega
        · have : g' = Y.heap.size := by simpa [Value.ownBlock] using e2
          have := m.size
          omega
theorem El.last (E : El t e k y) {W Y : World} {v : Value} {n : Nat} {xs : List Value} (h : Grew e k W Y v n xs) (hn : n ≤ 999) (ad : Addr) (cp : Nat) (ys : List Value) (hl : ys.length = k) (hc : ∀ j u, ys[j]? = some u → Y.cell? (ad.add j) = some u) (h1 : ∀ u ∈ ys, u.oneCell' = true) (ty : TypeId) :
    ∃ A c w', (Builtin.append_ #[t, t] ty #[v, .slice (some ad) 1 cp]).run Try.prog Y = .ok (.slice A (n + 1) c) w' ∧ Grew e k W w' (.slice A (n + 1) c) (n + 1) (xs ++ ys) := by
  obtain ⟨i, z, hi, hz, hs, hby, hzs⟩ := E.inf
  have hm0 : maxLen = 9223372036854775807 := rfl
  have hby2 : (n + 1) * y ≤ 140737488355328 := Nat.le_trans (Nat.mul_le_mul (show n + 1 ≤ 1000 by omega) E.few) (by decide)
  obtain ⟨v', w', h2, h3, h4, h5, h6⟩ := run_append_own_at (P := Try.prog) (w := Y) 0 t ty e i z k y E.und hi hz hs hby hzs E.pos _ _ _ h.row ad 1 cp ys (by omega) hc h1 (by omega) hby2 (Nat.zero_le _)
  have hm := Mod.of_grown (S := v.ownBlock.toList) h4 (by simp)
  obtain ⟨g0, hg0, hg1⟩ := h.own
  have h3' := h3
  rcases h3.2 with ⟨e1, h0⟩ | ⟨g', cp', cur', e1, _⟩
  · omega
  · subst e1
    refine ⟨_, _, w', h2, h.m.then hm fun x hx => ?_, h3', g', rfl, ?_⟩
    · have : x = g0 := by rw [hg0] at hx; simpa using hx
      exact Or.inr (by omega)
    · rcases h6 with e2 | e2
      · have : g' = g0 := by rw [hg0] at e2; simpa [Value.ownBlock] using e2
        omega
      · have : g' = Y.heap.size := by simpa [Value.ownBlock] using e2
        have := h.m.size
        omega
theorem new_cells (W : World) (cx : Array Value) (e : TypeId) : ∀ j u, cx.toList[j]? = some u → (W.alloc (.cells cx e)).cell? ((⟨W.heap.size, 0, none⟩ : Addr).add j) = some u := fun j u hj => by
  rw [WideShapes.add_plain, Nat.zero_add, World.cell?_alloc_new, ← hj]
  simp
/-- The three orders of 'append(append([]T{}, l...), x)' where the order is drawn. -/
theorem El.three (E : El t e k y) {W : World} {v : Value} {n : Nat} {xs : List Value} (h : W.ownsRow 0 e k v n xs) (hx : ∀ u ∈ xs, u.oneCell' = true) (hn : n ≤ 999) (cx : Array Value) (hl : cx.toList.length = k) (h1 : ∀ u ∈ cx.toList, u.oneCell' = true) (ty : TypeId) :
    (∃ A1 c1 w1 A2 c2 w2, (Builtin.append_ #[t, t] ty #[.slice (some ⟨W.heap.size, 0, none⟩) 0 0, v]).run Try.prog ((W.alloc (.cells #[] e)).drew) = .ok (.slice A1 n c1) w1 ∧ (Builtin.append_ #[t, t] ty #[.slice A1 n c1, .slice (some ⟨w1.heap.size, 0, none⟩) 1 1]).run Try.prog (w1.alloc (.cells cx e)) = .ok (.slice A2 (n + 1) c2) w2 ∧ Mod [] W w1 ∧ Grew e k W w2 (.slice A2 (n + 1) c2) (n + 1) (xs ++ cx.toList)) ∧
    (∃ A1 c1 w1 A2 c2 w2, (Builtin.append_ #[t, t] ty #[.slice (some ⟨W.heap.size, 0, none⟩) 0 0, v]).run Try.prog (((W.alloc (.cells #[] e)).alloc (.cells cx e)).drew) = .ok (.slice A1 n c1) w1 ∧ (Builtin.append_ #[t, t] ty #[.slice A1 n c1, .slice (some ⟨W.heap.size + 1, 0, none⟩) 1 1]).run Try.prog w1 = .ok (.slice A2 (n + 1) c2) w2 ∧ Mod [] W w1 ∧ Grew e k W w2 (.slice A2 (n + 1) c2) (n + 1) (xs ++ cx.toList)) ∧
    (∃ A1 c1 w1 A2 c2 w2, (Builtin.append_ #[t, t] ty #[.slice (some ⟨W.heap.size + 1, 0, none⟩) 0 0, v]).run Try.prog (((W.alloc (.cells cx e)).alloc (.cells #[] e)).drew) = .ok (.slice A1 n c1) w1 ∧ (Builtin.append_ #[t, t] ty #[.slice A1 n c1, .slice (some ⟨W.heap.size, 0, none⟩) 1 1]).run Try.prog w1 = .ok (.slice A2 (n + 1) c2) w2 ∧ Mod [] W w1 ∧ Grew e k W w2 (.slice A2 (n + 1) c2) (n + 1) (xs ++ cx.toList)) := by
  have al : ∀ (Y : World) (o : Obj), Mod [] Y (Y.alloc o) := fun Y o => (Mod.refl [] Y).alloc o
  have dr : ∀ Y : World, Mod [] Y Y.drew := fun Y => (Mod.refl [] Y).drew
  have sz : ∀ o : Obj, (W.alloc o).heap.size = W.heap.size + 1 := fun o => size_allocI W o
  refine ⟨?_, ?_, ?_⟩
  · obtain ⟨A1, c1, w1, e1, g1, _⟩ := E.base ((al W (.cells #[] e)).trans (dr _)) (Nat.le_refl _) (row_mod (lit_row e k W) (dr _) (by simp)) h hx (by omega) ty
    obtain ⟨A2, c2, w2, e2, g2⟩ := E.last (g1.far (al w1 (.cells cx e))) hn ⟨w1.heap.size, 0, none⟩ 1 cx.toList hl (new_cells w1 cx e) h1 ty
    exact ⟨A1, c1, w1, A2, c2, w2, e1, e2, g1.m, g2⟩
  · obtain ⟨A1, c1, w1, e1, g1, m1⟩ := E.base (((al W (.cells #[] e)).trans (al _ (.cells cx e))).trans (dr _)) (Nat.le_refl _) (row_mod (lit_row e k W) ((al _ (.cells cx e)).trans (dr _)) (by simp)) h hx (by omega) ty
    obtain ⟨A2, c2, w2, e2, g2⟩ := E.last g1 hn ⟨W.heap.size + 1, 0, none⟩ 1 cx.toList hl (fun j u hj => by
      have h := new_cells (W.alloc (.cells #[] e)) cx e j u hj
      rw [sz] at h
      refine m1.cell (a := ((W.alloc (.cells #[] e)).alloc (.cells cx e)).drew) ?_ h
      rw [WideShapes.add_plain]; simp) h1 ty
    exact ⟨A1, c1, w1, A2, c2, w2, e1, e2, g1.m, g2⟩
  · obtain ⟨A1, c1, w1, e1, g1, m1⟩ := E.base (((al W (.cells cx e)).trans (al _ (.cells #[] e))).trans (dr _)) (b := W.heap.size + 1) (by omega) (by
      have h := lit_row e k (W.alloc (.cells cx e))
      rw [sz] at h
      exact row_mod h (dr _) (by simp)) h hx (by omega) ty
    obtain ⟨A2, c2, w2, e2, g2⟩ := E.last g1 hn ⟨W.heap.size, 0, none⟩ 1 cx.toList hl (fun j u hj => by
      refine m1.cell (a := ((W.alloc (.cells cx e)).alloc (.cells #[] e)).drew) ?_ (((al _ (.cells #[] e)).trans (dr _)).cell (by simp) (new_cells W cx e j u hj))
      rw [WideShapes.add_plain]; simp) h1 ty
    exact ⟨A1, c1, w1, A2, c2, w2, e1, e2, g1.m, g2⟩
end
theorem infoF : (Try.prog.info? TF).map (fun i => (i.zero, i.size, i.bytes)) = some (some (.agg zC), 6, 64) := by kernel_rfl
theorem elF : El 27 TF 6 64 := by
  obtain ⟨i, hi, hz0, hz1, hz2⟩ := info_parts infoF
  exact ⟨Try.underlying27, ⟨i, _, hi, hz0, hz1, hz2, rfl⟩, by decide, by decide⟩
/-- An append of frames: a name, so that the walk lays nothing open. -/
def appF (ty : TypeId) (xs : Array Value) : Sem Value := Builtin.append_ #[27, 27] ty xs
@[go_sem ↓ high] theorem builtin_appF (ty : TypeId) (cs : Array Bool) (xs : Array Value) : builtin .append #[27, 27] ty cs xs = (do pure (.value (← appF ty xs))) := rfl
/-- An append in a region that draws, by what it gives. -/
theorem step_appF {ops : Array Oper} {o : Oper} {a : Act} {w w' : World} {K : Act → World → Prop} {Q : Exit → Act → World → Prop} {E : Prop} (hgd : o.guard = none) (s x : Operand)
    (ho : o.op = .call { callee := .builtin .append, args := #[s, x], argTypes := #[27, 27] }) {v1 v2 r : Value} (h1 : a.eval s = v1) (h2 : a.eval x = v2)
    (hr : (appF o.type #[v1, v2]).run Try.prog w = .ok r w') (hK : K (a.put o.dst r) w') : if Region.wanted o (yielded ops a.tmps) = true then Oper.wp Try.prog o a w K Q else E := by
  have hw : Region.wanted o (yielded ops a.tmps) = true := by simp [Region.wanted, hgd]
  rw [if_pos hw]
  unfold Oper.wp execOp
  unfold appF at hr
  simp only [ho, resolve, invoke, builtin, Sem.run_bind, Sem.run_pure, Result.andThen_ok, List.map_toArray, List.map_cons, List.map_nil, h1, h2, hr]
  exact hK
/-- A frame's cells in a box of its own. -/
abbrev cellsF (q : Fm) (s : Value) : Array Value := #[.int .i64 q.k, .int .i64 q.a, .int .i64 q.b, .int .i64 q.x, .int .i64 q.y, s]
theorem cellsF_one {q : Fm} {s : Value} (h : s.oneCell' = true) : ∀ u ∈ (cellsF q s).toList, u.oneCell' = true := by
  simp
  exact ⟨rfl, rfl, rfl, rfl, rfl, h⟩
section
variable {tB : TypeId} {w : World} {p : Nat} {A0 : Option Addr} {n cap0 : Nat} {O : List (Fm × Value)}
/-- One frame more, onto the row itself. -/
theorem Fv.app (h : Fv tB w p (.slice A0 n cap0) O) {Y : World} (m : Mod [] w Y) {q : Fm} {s' : Value} (hs : New w Y s' q.l) (hn : O.length < 128) (ty : TypeId) :
    ∃ A c w', (appF ty #[.slice A0 n cap0, .slice (some ⟨Y.heap.size, 0, none⟩) 1 1]).run Try.prog (Y.alloc (.cells (cellsF q s') TF)) = .ok (.slice A (n + 1) c) w' ∧ w'.cell? ⟨p, 0, none⟩ = some (.slice A0 n cap0) ∧ w'.frozen? ⟨p, 0, none⟩ = false ∧
      RowKit.Hid (Fv tB (w'.setCell ⟨p, 0, none⟩ (.slice A (n + 1) c)) p (.slice A (n + 1) c) (O ++ [(q, s')]) ∧ Turn (Sf p (.slice A0 n cap0) O) (Sf p (.slice A (n + 1) c) (O ++ [(q, s')])) w (w'.setCell ⟨p, 0, none⟩ (.slice A (n + 1) c))) := by
  obtain ⟨i, z, hi, hz, hsz, hby, hzs⟩ := elF.inf
  have hm0 : maxLen = 9223372036854775807 := rfl
  have hnn : n = O.length := by
    obtain ⟨A', c, e, _⟩ := h.slice
    injection e
  subst hnn
  have mY : Mod [] w (Y.alloc (.cells (cellsF q s') TF)) := m.trans (al_mod _ _)
  have hrow := row_mod h.row mY (by simp)
  have hcl : ∀ u ∈ flatG O, u.oneCell' = true := flatG_cells fun r hr => ((h.loc r hr).ls).one
  obtain ⟨v', w', h2, h3, h4, h5, h6⟩ := run_append_own_at (P := Try.prog) (w := Y.alloc (.cells (cellsF q s') TF)) 0 27 ty TF i z 6 64 elF.und hi hz hsz hby hzs (by decide) _ _ _ hrow ⟨Y.heap.size, 0, none⟩ 1 1 (cellsF q s').toList (by simp) (new_cells Y (cellsF q s') TF) (cellsF_one hs.1.ls.one) (by omega) (by omega) (Nat.zero_le _)
  have h3' := h3
  rcases h3.2 with ⟨e1, h0⟩ | ⟨g', cp', cur', e1, _⟩
  · omega
  · subst e1
    have hm := Mod.of_grown (S := (Value.slice A0 O.length cap0).ownBlock.toList) h4 (by simp)
    have hmm := (mY.up (T := (Value.slice A0 O.length cap0).ownBlock.toList) (by simp)).trans hm
    have hnp : ∀ g ∈ (Value.slice A0 O.length cap0).ownBlock.toList, g ≠ p ∧ g < w.heap.size := fun g hg => by
      have hg' : (Value.slice A0 O.length cap0).ownBlock = some g := by simpa using hg
      exact ⟨fun e => h.np.1 (by rw [hg', e]), h.lv g hg'⟩
    have hpS : p ∉ (Value.slice A0 O.length cap0).ownBlock.toList := fun hx => (hnp p hx).1 rfl
    have hlc : Lc w' s' q.l := (hs.1.far (al_mod Y (.cells (cellsF q s') TF))).mod hm fun g hg hx => by
      have := (hnp g hx).2; have := hs.2 g hg; omega
    have hr : w'.ownsRow 0 TF 6 (.slice (some ⟨g', 0, none⟩) (O.length + 1) cp') (O.length + 1) (flatG (O ++ [(q, s')])) := by
      rw [flatG_app, flatG_one]
      exact h3'
    have hv : (Value.slice (some ⟨g', 0, none⟩) (O.length + 1) cp').ownBlock = (Value.slice A0 O.length cap0).ownBlock ∨ ∃ g, (Value.slice (some ⟨g', 0, none⟩) (O.length + 1) cp').ownBlock = some g ∧ w.heap.size ≤ g ∧ s'.ownBlock ≠ some g := by
      rcases h6 with e2 | e2
      · exact Or.inl e2
      · refine Or.inr ⟨_, e2, ?_, fun e => ?_⟩
        · have := mY.size; omega
        · have h7 := hs.1.lt _ e
          rw [size_allocI] at h7
          omega
    obtain ⟨r1, r2⟩ := h.grown hmm hr hv hlc hs.2 hn
    exact ⟨_, _, w', h2, hmm.cell (x := ⟨p, 0, none⟩) hpS h.c0, (hmm.frozen (x := ⟨p, 0, none⟩) hpS h.lp).trans (h.f 0), Lib.hid ⟨r1, r2⟩⟩
end
end Go.Proofs.Ytacmidlhfcnkiaa
