/- Layer 14: slices.Clone of cells; a frame copied, by the program and by the document. Condition: the locals lie where the slice tells, 1000000 at most. -/
import Derived.Test.YtacmidlhfcnkiaaGB
namespace Go.Proofs.Ytacmidlhfcnkiaa
open Go.RowKit
set_option linter.unusedVariables false

/-- s is l, in new memory. -/
def New (w w' : World) (s : Value) (l : List Int) : Prop := Lc w' s l ∧ ∀ g, s.ownBlock = some g → w.heap.size ≤ g
theorem clone_ls {w : World} {s : Value} {l : List Int} (h : Ls w s l) (hb : l.length ≤ 1000000) :
    Calls Try.prog 42 #[s] w fun e w' => ∃ s', e = .returned s' ∧ New w w' s' l ∧ Mod [] w w' := by
  obtain ⟨A, cap, rfl, h1, h2, h3, h4⟩ := h
  cases A with
  | some a0 =>
    refine (clone_calls (cap := cap) h4 rfl a0 rfl (by omega)).mono ?_
    rintro e w' ⟨b, c, rfl, ho, m, hl⟩
    refine ⟨_, rfl, ⟨Or.inr ⟨b, c, rfl, ho⟩, fun g hg => ?_⟩, m⟩
    cases hg
    exact hl
  | none =>
    have hc := h1 rfl
    subst hc
    have hl : l = [] := List.eq_nil_of_length_eq_zero (by omega)
    subst hl
    clear h1 h2 h3 h4
    have q : ∀ W, (binOp .eql 32 (.slice none 0 0) (.slice none 0 0)).run Try.prog W = .ok (.bool true) W := fun W => Lib.run_eql_slice_nil W _ _ none 0 0 0 0 Try.underlying32
    go_enter Try.func42, Try.ntmps42
    go_wp2_with fail
    go_ret
    exact ⟨_, rfl, ⟨Lc.nil _, fun g hg => by cases hg⟩, Mod.refl _ _⟩
/-- A frame boxed: its cells. -/
theorem fr_new (w : World) (q : Fm) (s : Value) : ∀ j, j < 6 → (w.alloc (.cells #[.int .i64 q.k, .int .i64 q.a, .int .i64 q.b, .int .i64 q.x, .int .i64 q.y, s] TF)).cell? ⟨w.heap.size, j, none⟩ = (flatF (q, s))[j]? := fun j hj => by
  rw [cell_eq (MapKept.heap_alloc w _).1]
  simp [flatF]
theorem zero_new (w : World) : ∀ j, j < 6 → (w.alloc (.cells #[.int .i64 0, .int .i64 0, .int .i64 0, .int .i64 0, .int .i64 0, .slice none 0 0] TF)).cell? ⟨w.heap.size, j, none⟩ = (flatF (zF, .slice none 0 0))[j]? := fr_new w zF _
/-- What lies in two boxes, one behind the other, lies there later. -/
theorem two_box {w w' : World} {c1 c2 : Array Value} {t1 t2 : TypeId} (m : Mod [] ((w.alloc (.cells c1 t1)).alloc (.cells c2 t2)) w') : w'.heap[w.heap.size]? = some (.cells c1 t1 (0, 0)) ∧ w'.heap[w.heap.size + 1]? = some (.cells c2 t2 (0, 0)) := by
  have h1 := (MapKept.heap_alloc w (.cells c1 t1)).1
  have h2 := (MapKept.heap_alloc (w.alloc (.cells c1 t1)) (.cells c2 t2)).1
  rw [size_allocI] at h2
  refine ⟨(m.block _ (by rw [size_allocI, size_allocI]; omega) (by simp)).trans (((al_mod (w.alloc (.cells c1 t1)) (.cells c2 t2)).block _ (by rw [size_allocI]; omega) (by simp)).trans h1), (m.block _ (by rw [size_allocI, size_allocI]; omega) (by simp)).trans h2⟩
theorem frz_eq {w : World} {b : Nat} {cs : Array Value} {t : TypeId} (h : w.heap[b]? = some (.cells cs t (0, 0))) (i : Nat) : w.frozen? ⟨b, i, none⟩ = false := by simp only [World.frozen?, h]; rfl
theorem six_at {w : World} {b : Nat} {v0 v1 v2 v3 v4 v5 : Value} {t : TypeId} (h : w.heap[b]? = some (.cells #[v0, v1, v2, v3, v4, v5] t (0, 0))) :
    w.cell? ⟨b, 0, none⟩ = some v0 ∧ w.cell? ⟨b, 1, none⟩ = some v1 ∧ w.cell? ⟨b, 2, none⟩ = some v2 ∧ w.cell? ⟨b, 3, none⟩ = some v3 ∧ w.cell? ⟨b, 4, none⟩ = some v4 ∧ w.cell? ⟨b, 5, none⟩ = some v5 ∧
    w.frozen? ⟨b, 0, none⟩ = false ∧ w.frozen? ⟨b, 1, none⟩ = false ∧ w.frozen? ⟨b, 2, none⟩ = false ∧ w.frozen? ⟨b, 3, none⟩ = false ∧ w.frozen? ⟨b, 4, none⟩ = false ∧ w.frozen? ⟨b, 5, none⟩ = false :=
  ⟨cell_eq h 0, cell_eq h 1, cell_eq h 2, cell_eq h 3, cell_eq h 4, cell_eq h 5, frz_eq h 0, frz_eq h 1, frz_eq h 2, frz_eq h 3, frz_eq h 4, frz_eq h 5⟩
/-- Six stores. -/
abbrev sixSet (w : World) (b : Nat) (v0 v1 v2 v3 v4 v5 : Value) : World :=
  (((((w.setCell ⟨b, 0, none⟩ v0).setCell ⟨b, 1, none⟩ v1).setCell ⟨b, 2, none⟩ v2).setCell ⟨b, 3, none⟩ v3).setCell ⟨b, 4, none⟩ v4).setCell ⟨b, 5, none⟩ v5
theorem six_set {w : World} {b : Nat} {u0 u1 u2 u3 u4 u5 v0 v1 v2 v3 v4 v5 : Value} {t : TypeId} (h : w.heap[b]? = some (.cells #[u0, u1, u2, u3, u4, u5] t (0, 0))) :
    (sixSet w b v0 v1 v2 v3 v4 v5).heap[b]? = some (.cells #[v0, v1, v2, v3, v4, v5] t (0, 0)) ∧ Mod [b] w (sixSet w b v0 v1 v2 v3 v4 v5) := by
  refine ⟨?_, ?_⟩
  · show ((((((w.setCell ⟨b, 0, none⟩ v0).setCell ⟨b, 1, none⟩ v1).setCell ⟨b, 2, none⟩ v2).setCell ⟨b, 3, none⟩ v3).setCell ⟨b, 4, none⟩ v4).setCell ⟨b, 5, none⟩ v5).heap[b]? = _
    rw [heap_setCell_same _ b 5 _ _ v5 (heap_setCell_same _ b 4 _ _ v4 (heap_setCell_same _ b 3 _ _ v3 (heap_setCell_same _ b 2 _ _ v2 (heap_setCell_same _ b 1 _ _ v1 (heap_setCell_same _ b 0 _ _ v0 h)))))]
    rfl
  · exact (((((set_mod w b 0 v0).trans (set_mod _ b 1 v1)).trans (set_mod _ b 2 v2)).trans (set_mod _ b 3 v3)).trans (set_mod _ b 4 v4)).trans (set_mod _ b 5 v5)
theorem res_fr {fn : Func} {a : Nat} (h : fn.results = #[.cell a TF]) {tmps : Array Value} {b : Nat} (ht : tmps[a]? = some (Pt b)) {W : World} {v0 v1 v2 v3 v4 v5 : Value} {t : TypeId} (hb : W.heap[b]? = some (.cells #[v0, v1, v2, v3, v4, v5] t (0, 0))) :
    (results fn tmps).run Try.prog W = .ok (.agg #[v0, v1, v2, v3, v4, v5]) W := by
  obtain ⟨c0, c1, c2, c3, c4, c5, _⟩ := six_at hb
  simp [results, h, ht, go_sem, c0, c1, c2, c3, c4, c5]
theorem res_fr2 {fn : Func} {a c : Nat} (h : fn.results = #[.cell a TF, .tmp c]) {tmps : Array Value} {b : Nat} (ht : tmps[a]? = some (Pt b)) {W : World} {v0 v1 v2 v3 v4 v5 : Value} {t : TypeId} (hb : W.heap[b]? = some (.cells #[v0, v1, v2, v3, v4, v5] t (0, 0))) :
    (results fn tmps).run Try.prog W = .ok (.tuple #[.agg #[v0, v1, v2, v3, v4, v5], tmps.getD c undef]) W := by
  obtain ⟨c0, c1, c2, c3, c4, c5, _⟩ := six_at hb
  simp [results, h, ht, go_sem, c0, c1, c2, c3, c4, c5]
abbrev zC : Array Value := #[.int .i64 0, .int .i64 0, .int .i64 0, .int .i64 0, .int .i64 0, .slice none 0 0]
set_option maxHeartbeats 4000000 in
theorem copied_calls {w : World} {q : Fm} {s : Value} (h : Ls w s q.l) (hb : q.l.length ≤ 1000000) :
    Calls Try.prog 35 #[frV q s] w fun e w' => ∃ s', e = .returned (frV q s') ∧ New w w' s' q.l ∧ Mod [] w w' := by
  obtain ⟨k, a, b, x, y, l⟩ := q
  have m1 := al_mod w (.cells #[.int .i64 k, .int .i64 a, .int .i64 b, .int .i64 x, .int .i64 y, s] TF)
  have m2 := m1.trans (al_mod _ (.cells zC TF))
  have H1 := Lib.hid (clone_ls (h.far m2) hb)
  have HM := Lib.hid m2
  unfold frV
  dsimp only at H1 ⊢
  clear h hb m1 m2
  go_enter Try.func35, Try.ntmps35
  go_wp2_with fail
  refine (H1.out).mono ?_
  rintro e w' ⟨s', rfl, hn, hm⟩
  obtain ⟨b1, b2⟩ := two_box hm
  obtain ⟨A', cap', rfl, _⟩ := hn.1.ls
  obtain ⟨c0, c1, c2, c3, c4, c5, f0, f1, f2, f3, f4, f5⟩ := six_at b1
  obtain ⟨d0, d1, d2, d3, d4, d5, g0, g1, g2, g3, g4, g5⟩ := six_at b2
  have HN := Lib.hid (And.intro hn (And.intro hm (And.intro b1 b2)))
  clear hn hm H1 b1 b2
  go_wp2_with fail
  obtain ⟨hn, hm, b1, b2⟩ := HN.out
  have s1 := set_mod w' w.heap.size 5 (.slice A' l.length cap')
  have b2' := (s1.block (w.heap.size + 1) (Array.getElem?_eq_some_iff.1 b2).1 (by simp)).trans b2
  obtain ⟨b3, s2⟩ := six_set (v0 := .int .i64 k) (v1 := .int .i64 a) (v2 := .int .i64 b) (v3 := .int .i64 x) (v4 := .int .i64 y) (v5 := .slice A' l.length cap') b2'
  refine bodyPost_ret (res_fr Try.results35 rfl b3) rfl ?_
  have hz : ((w.alloc (.cells #[.int .i64 k, .int .i64 a, .int .i64 b, .int .i64 x, .int .i64 y, s] TF)).alloc (.cells zC TF)).heap.size = w.heap.size + 2 := by rw [size_allocI, size_allocI]
  refine ⟨_, rfl, ⟨?_, fun g hg => ?_⟩, ?_⟩
  · refine (hn.1.mod s1 fun g hg hx => ?_).mod s2 fun g hg hx => ?_
    · have := hn.2 g hg; have : g = w.heap.size := by simpa using hx
      omega
    · have := hn.2 g hg; have : g = w.heap.size + 1 := by simpa using hx
      omega
  · have := hn.2 g hg; omega
  · exact ((HM.out.trans hm).far1 s1 (Nat.le_refl _)).far1 s2 (by omega)
set_option maxHeartbeats 4000000 in
theorem rcopied_calls {w : World} {q : Fm} {s : Value} (h : Ls w s q.l) (hb : q.l.length ≤ 1000000) :
    Calls Try.prog 36 #[frV q s] w fun e w' => ∃ s', e = .returned (frV q s') ∧ New w w' s' q.l ∧ Mod [] w w' := by
  obtain ⟨k, a, b, x, y, l⟩ := q
  dsimp only at h hb
  obtain ⟨A, cap, rfl, h1, h2, h3, h4⟩ := h
  obtain ⟨n, hn⟩ : ∃ n, n = l.length := ⟨_, rfl⟩
  rw [← hn]
  have m1 := al_mod w (.cells #[.int .i64 k, .int .i64 a, .int .i64 b, .int .i64 x, .int .i64 y, .slice A n cap] TF)
  have m2 := m1.trans (al_mod _ (.cells zC TF))
  have m3 := m2.trans (al_mod _ (.cells #[] 31))
  have hz : ((w.alloc (.cells #[.int .i64 k, .int .i64 a, .int .i64 b, .int .i64 x, .int .i64 y, .slice A n cap] TF)).alloc (.cells zC TF)).heap.size = w.heap.size + 1 + 1 := by rw [size_allocI, size_allocI]
  have hO0 := Ow.new ((w.alloc (.cells #[.int .i64 k, .int .i64 a, .int .i64 b, .int .i64 x, .int .i64 y, .slice A n cap] TF)).alloc (.cells zC TF)) [] (Nat.zero_le _)
  rw [hz] at hO0
  have hO := Lib.hid hO0
  have hS := Lib.hid (h4.far m3)
  have HA := Lib.hid h1
  have HB := Lib.hid (show ([] : List Int).length + l.length ≤ 1000000000 by simp; omega)
  have HN := Lib.hid hn
  have HM := Lib.hid m3
  have HT := Lib.hid (fun W' (m : Mod [w.heap.size + 1 + 1] (((w.alloc (.cells #[.int .i64 k, .int .i64 a, .int .i64 b, .int .i64 x, .int .i64 y, .slice A n cap] TF)).alloc (.cells zC TF)).alloc (.cells #[] 31)) W') => (show W'.heap[w.heap.size]? = some (.cells #[.int .i64 k, .int .i64 a, .int .i64 b, .int .i64 x, .int .i64 y, .slice A n cap] TF (0, 0)) ∧ W'.heap[w.heap.size + 1]? = some (.cells zC TF (0, 0)) from by
    obtain ⟨e1, e2⟩ := two_box (al_mod ((w.alloc (.cells #[.int .i64 k, .int .i64 a, .int .i64 b, .int .i64 x, .int .i64 y, .slice A n cap] TF)).alloc (.cells zC TF)) (.cells #[] 31))
    exact ⟨(m.block _ (by rw [size_allocI, hz]; omega) (by simp; omega)).trans e1, (m.block _ (by rw [size_allocI, hz]; omega) (by simp)).trans e2⟩))
  unfold frV
  clear h1 h2 h3 h4 hb m1 m2 m3 hn hO0 hz
  go_enter Try.func36, Try.ntmps36
  go_wp2_with (refine wpList_app rfl (.tmp 3) (.tmp 5) rfl hO.out hS.out rfl HN.out HA.out HB.out rfl rfl ?_)
  intro b' c' w' k1 k2 k3
  obtain ⟨b1, b2⟩ := HT.out w' k2
  obtain ⟨c0, c1, c2, c3, c4, c5, f0, f1, f2, f3, f4, f5⟩ := six_at b1
  obtain ⟨d0, d1, d2, d3, d4, d5, g0, g1, g2, g3, g4, g5⟩ := six_at b2
  have HF := Lib.hid (And.intro b1 (And.intro b2 (And.intro k1 (And.intro k2 k3))))
  clear b1 b2 k1 k2 k3 HT
  go_wp2_with fail
  obtain ⟨b1, b2, k1, k2, k3⟩ := HF.out
  have s1 := set_mod w' w.heap.size 5 (.slice (some ⟨b', 0, none⟩) n c')
  have b2' := (s1.block (w.heap.size + 1) (Array.getElem?_eq_some_iff.1 b2).1 (by simp)).trans b2
  obtain ⟨b3, s2⟩ := six_set (v0 := .int .i64 k) (v1 := .int .i64 a) (v2 := .int .i64 b) (v3 := .int .i64 x) (v4 := .int .i64 y) (v5 := .slice (some ⟨b', 0, none⟩) n c') b2'
  refine bodyPost_ret (res_fr Try.results36 rfl b3) rfl ?_
  refine ⟨_, rfl, ⟨Or.inr ⟨b', c', by rw [HN.out], ?_⟩, fun g hg => ?_⟩, ?_⟩
  · exact (k1.mod s1 (by simp; omega)).mod s2 (by simp; omega)
  · have : b' = g := by simpa [Value.ownBlock] using hg
    omega
  · exact ((HM.out.far1 k2 (by omega)).far1 s1 (Nat.le_refl _)).far1 s2 (by omega)
end Go.Proofs.Ytacmidlhfcnkiaa
