/- Layer 14: frames that a law made, and blocks kept beside (Fd). No condition. -/
import Derived.Test.YtacmidlhfcnkiaaGR
import Derived.Test.YtacmidlhfcnkiaaGS
namespace Go.Proofs.Ytacmidlhfcnkiaa
open Go.RowKit
set_option linter.unusedVariables false

/-- The blocks D are as they were. -/
def Kp (D : List Nat) (w w' : World) : Prop := ∀ b ∈ D, b < w.heap.size → w'.heap[b]? = w.heap[b]?
theorem Kp.trans {D : List Nat} {a b c : World} (h : Kp D a b) (k : Kp D b c) (hs : a.heap.size ≤ b.heap.size) : Kp D a c := fun x hx hl => (k x hx (Nat.lt_of_lt_of_le hl hs)).trans (h x hx hl)
theorem Kp.of_mod {D S : List Nat} {w w' : World} (m : Mod S w w') (h : ∀ b ∈ D, b ∉ S) : Kp D w w' := fun b hb hl => m.block b hl (h b hb)
theorem Kp.far {D : List Nat} {w w' : World} (m : Mod [] w w') : Kp D w w' := Kp.of_mod m (by simp)
theorem Kp.less {D D' : List Nat} {w w' : World} (h : Kp D w w') (hs : ∀ b ∈ D', b ∈ D) : Kp D' w w' := fun b hb => h b (hs b hb)
theorem Ow.kp {D : List Nat} {w w' : World} {b c : Nat} {X : List Int} (h : Ow w b X c) (k : Kp D w w') (hb : b ∈ D) : Ow w' b X c := by
  have hl := h.lt
  obtain ⟨cur, h1, h2⟩ := h
  exact ⟨cur, (k b hb hl).trans h1, h2⟩
theorem Lc.kp {D : List Nat} {w w' : World} {s : Value} {l : List Int} (h : Lc w s l) (k : Kp D w w') (hb : ∀ g, s.ownBlock = some g → g ∈ D) : Lc w' s l := by
  rcases h with ⟨rfl, rfl⟩ | ⟨b, c, rfl, ho⟩
  · exact Lc.nil _
  · exact Or.inr ⟨b, c, rfl, ho.kp k (hb b rfl)⟩
theorem box_kept {D : List Nat} {w w' : World} {b : Nat} {o : Obj} (h : w.heap[b]? = some o) (k : Kp D w w') (hb : b ∈ D) : w'.heap[b]? = some o := (k b hb (Array.getElem?_eq_some_iff.1 h).1).trans h
/-- Frames at p, new since w0, where nothing older turned; the blocks D lie apart from theirs. -/
def Fd (tB : TypeId) (w0 w : World) (p : Nat) (L : List Fm) (D : List Nat) : Prop :=
  ∃ T, Fr tB w p T L ∧ (∀ x ∈ T, w0.heap.size ≤ x) ∧ Mod [] w0 w ∧ ∀ b ∈ D, b ∉ T ∧ b < w.heap.size
variable {tB : TypeId} {w0 w w' : World} {p : Nat} {q : Fm} {L L' : List Fm} {D : List Nat}
theorem Fd.mod (h : Fd tB w0 w p L D) : Mod [] w0 w := by obtain ⟨T, _, _, m, _⟩ := h; exact m
theorem Fd.far (h : Fd tB w0 w p L D) (m : Mod [] w w') : Fd tB w0 w' p L D := by
  obtain ⟨T, hF, hT, m0, hD⟩ := h
  exact ⟨T, hF.far m, hT, m0.trans m, fun b hb => ⟨(hD b hb).1, Nat.lt_of_lt_of_le (hD b hb).2 m.size⟩⟩
theorem Fd.store {b : Nat} (h : Fd tB w0 w p L D) (hb : b ∈ D) (hw : w0.heap.size ≤ b) (m : Mod [b] w w') : Fd tB w0 w' p L D := by
  obtain ⟨T, hF, hT, m0, hD⟩ := h
  exact ⟨T, hF.mod m fun x hx => by simp; rintro rfl; exact (hD x hb).1 hx, hT, m0.far1 m hw, fun x hx => ⟨(hD x hx).1, Nat.lt_of_lt_of_le (hD x hx).2 m.size⟩⟩
theorem Fd.less {D' : List Nat} (h : Fd tB w0 w p L D) (hs : ∀ b ∈ D', b ∈ D) : Fd tB w0 w p L D' := by
  obtain ⟨T, hF, hT, m0, hD⟩ := h
  exact ⟨T, hF, hT, m0, fun b hb => hD b (hs b hb)⟩
/-- A block that is new is kept beside. -/
theorem Fd.add {b : Nat} (h : Fd tB w0 w p L D) (m : Mod [] w w') (h1 : w.heap.size ≤ b) (h2 : b < w'.heap.size) : Fd tB w0 w' p L (b :: D) := by
  obtain ⟨T, hF, hT, m0, hD⟩ := h
  refine ⟨T, hF.far m, hT, m0.trans m, fun x hx => ?_⟩
  rcases List.mem_cons.1 hx with rfl | hx
  · exact ⟨hF.above h1, h2⟩
  · exact ⟨(hD x hx).1, Nat.lt_of_lt_of_le (hD x hx).2 m.size⟩
theorem Fd.turn {T T' : List Nat} (hF : Fr tB w p T L) (hT : ∀ x ∈ T, w0.heap.size ≤ x) (m : Mod [] w0 w) (hD : ∀ b ∈ D, b ∉ T ∧ b < w.heap.size) (hF' : Fr tB w' p T' L') (hu : Turn T T' w w') : Fd tB w0 w' p L' D ∧ Kp D w w' :=
  ⟨⟨T', hF', fun x hx => (hu.2 x hx).elim (hT x) fun hl => Nat.le_trans m.size hl, m.then hu.1 fun x hx => Or.inr (hT x hx), fun b hb => ⟨fun hx => (hu.2 b hx).elim (hD b hb).1 fun hl => by have := (hD b hb).2; omega, Nat.lt_of_lt_of_le (hD b hb).2 hu.1.size⟩⟩, Kp.of_mod hu.1 fun b hb => (hD b hb).1⟩
theorem Fd.tell {T T' : List Nat} {s' : Value} {l : List Int} (hF : Fr tB w p T L) (hT : ∀ x ∈ T, w0.heap.size ≤ x) (m : Mod [] w0 w) (hD : ∀ b ∈ D, b ∉ T ∧ b < w.heap.size) (hF' : Fr tB w' p T' L') (hu : Turn T T' w w') (hl : Lc w' s' l) (hs : ∀ g, s'.ownBlock = some g → g ∉ T') : Fd tB w0 w' p L' (s'.ownBlock.toList ++ D) ∧ Kp D w w' := by
  obtain ⟨⟨T2, h1, h2, h3, h4⟩, h5⟩ := Fd.turn hF hT m hD hF' hu
  refine ⟨⟨T', hF', fun x hx => (hu.2 x hx).elim (hT x) fun hl => Nat.le_trans m.size hl, h3, fun b hb => ?_⟩, h5⟩
  rcases List.mem_append.1 hb with hb | hb
  · have hb' : s'.ownBlock = some b := by simpa using hb
    exact ⟨hs b hb', hl.lt b hb'⟩
  · exact ⟨fun hx => (hu.2 b hx).elim (hD b hb).1 fun hl => by have := (hD b hb).2; omega, (h4 b hb).2⟩
theorem new_fd (m : Mod [] w0 w) : Calls Try.prog 11 #[] w fun e w' => ∃ p, e = .returned (Pt p) ∧ Fd TP w0 w' p [] [] ∧ Mod [] w w' :=
  (new_calls w).mono fun e w' ⟨p, h1, h2, h3, h4⟩ => ⟨p, h1, ⟨[p], h2, fun x hx => by rw [List.mem_singleton.1 hx]; exact Nat.le_trans m.size h4, m.trans h3, by simp⟩, h3⟩
theorem Fd.push (h : Fd TP w0 w p L D) {s : Value} (hs : Ls w s q.l) (hb : q.l.length ≤ 1000) : Calls Try.prog 21 #[Pt p, frV q s] w fun e w' => e = .returned (.int .i64 (pushE L)) ∧ Fd TP w0 w' p (pushL L q) D ∧ Kp D w w' := by
  obtain ⟨T, hF, hT, m0, hD⟩ := h
  exact (push_calls hF hs hb).mono fun e w' ⟨h1, T', h2, h3⟩ => ⟨h1, Fd.turn hF hT m0 hD h2 h3⟩
theorem Fd.cut (h : Fd TP w0 w p L D) (n : Int) : Calls Try.prog 18 #[Pt p, .int .i64 n] w fun e w' => (∃ r, e = .returned r) ∧ Fd TP w0 w' p (cutL n L) D ∧ Kp D w w' := by
  obtain ⟨T, hF, hT, m0, hD⟩ := h
  exact (cut_calls hF n).mono fun e w' ⟨h1, T', h2, h3⟩ => ⟨h1, Fd.turn hF hT m0 hD h2 h3⟩
theorem Fd.step (h : Fd TP w0 w p L D) (s : Int) : Calls Try.prog 23 #[Pt p, .int .i64 s] w fun e w' => e = .returned (.tuple #[.bool (stepEnd s L), .int .i64 (errK 3 (-26) L)]) ∧ Fd TP w0 w' p (stepL s L) D ∧ Kp D w w' := by
  obtain ⟨T, hF, hT, m0, hD⟩ := h
  exact (step_calls hF s).mono fun e w' ⟨h1, T', h2, h3⟩ => ⟨h1, Fd.turn hF hT m0 hD h2 h3⟩
theorem Fd.depth (h : Fd TP w0 w p L D) (n : Nat) (hn : L.length = n) : Calls Try.prog 14 #[Pt p] w fun e w' => e = .returned (.int .i64 (n : Int)) ∧ w = w' := by
  obtain ⟨T, hF, hT, m0, hD⟩ := h
  exact depth_calls hF n hn
theorem Fd.index (h : Fd TP w0 w p L D) (t : Int) : Calls Try.prog 22 #[Pt p, .int .i64 t] w fun e w' => e = .returned (.tuple #[.int .i64 ((indexL t L).getD 0), .int .i64 (orE (-26) (indexL t L))]) ∧ Fd TP w0 w' p L D ∧ Kp D w w' := by
  have hh := h
  obtain ⟨T, ⟨v, O, hv, rfl, rfl, hsm⟩, hT, m0, hD⟩ := h
  exact (index_calls hv t).mono fun e w' ⟨h1, h2⟩ => ⟨h1, hh.far h2, Kp.far h2⟩
theorem Fd.pop (h : Fd TP w0 w p L D) (k : Int) : Calls Try.prog 27 #[Pt p, .int .i64 k] w fun e w' => ∃ s', e = .returned (.tuple #[frV ((topK k L).getD zF) s', .int .i64 (errK k (-6) L)]) ∧ Fd TP w0 w' p (popL k L) (s'.ownBlock.toList ++ D) ∧ Kp D w w' ∧ Lc w' s' ((topK k L).getD zF).l ∧ ∀ g, s'.ownBlock = some g → g ∉ D := by
  obtain ⟨T, hF, hT, m0, hD⟩ := h
  exact (pop_calls hF k).mono fun e w' ⟨s', h1, h2, T', h3, h4, h5⟩ => by
    obtain ⟨k1, k2⟩ := Fd.tell hF hT m0 hD h3 h4 h2 fun g hg => (h5 g hg).2
    exact ⟨s', h1, k1, k2, h2, fun g hg hx => (h5 g hg).1.elim (hD g hx).1 fun hl => by have := (hD g hx).2; omega⟩
theorem Fd.top (h : Fd TP w0 w p L D) : Calls Try.prog 15 #[Pt p] w fun e w' => ∃ s', e = .returned (.tuple #[frV (topV L) s', .bool L.getLast?.isSome]) ∧ Fd TP w0 w' p L (s'.ownBlock.toList ++ D) ∧ Kp D w w' ∧ Lc w' s' (topV L).l ∧ ∀ g, s'.ownBlock = some g → w.heap.size ≤ g := by
  obtain ⟨T, hF, hT, m0, hD⟩ := h
  exact (top_calls hF).mono fun e w' ⟨s', h1, h2, h3⟩ => by
    obtain ⟨k1, k2⟩ := Fd.tell hF hT m0 hD (hF.far h3) ((Turn.refl T w).far h3) h2.1 (fun g hg hx => by have := hF.lt g hx; have := h2.2 g hg; omega)
    exact ⟨s', h1, k1, k2, h2.1, h2.2⟩
theorem Fd.catch_ (h : Fd TP w0 w p (L ++ q :: L') D) (hq : q.k = 5) (hB : ∀ b ∈ L', isCatch b = false) : Calls Try.prog 26 #[Pt p] w fun e w' => ∃ s', e = .returned (.tuple #[frV q s', .bool true]) ∧ Fd TP w0 w' p L (s'.ownBlock.toList ++ D) ∧ Kp D w w' ∧ Lc w' s' q.l ∧ ∀ g, s'.ownBlock = some g → g ∉ D := by
  obtain ⟨T, hF, hT, m0, hD⟩ := h
  exact (catch_yes hF hq hB).mono fun e w' ⟨s', h1, h2, T', h3, h4, h5⟩ => by
    obtain ⟨k1, k2⟩ := Fd.tell hF hT m0 hD h3 h4 h2 fun g hg => (h5 g hg).2
    exact ⟨s', h1, k1, k2, h2, fun g hg hx => (h5 g hg).1.elim (hD g hx).1 fun hl => by have := (hD g hx).2; omega⟩
theorem Fd.catchNo (h : Fd TP w0 w p L D) (hB : ∀ b ∈ L, isCatch b = false) : Calls Try.prog 26 #[Pt p] w fun e w' => e = .returned (.tuple #[.agg zC, .bool false]) ∧ Fd TP w0 w' p L D ∧ Kp D w w' := by
  have hh := h
  obtain ⟨T, hF, hT, m0, hD⟩ := h
  exact (catch_no hF hB).mono fun e w' ⟨h1, h2⟩ => ⟨h1, hh.far h2, Kp.far h2⟩
end Go.Proofs.Ytacmidlhfcnkiaa
