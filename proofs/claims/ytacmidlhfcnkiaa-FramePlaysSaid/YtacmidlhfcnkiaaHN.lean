/- Layer 14: each call on either of the two (Fp). No condition. -/
import Derived.Test.YtacmidlhfcnkiaaHM
import Derived.Test.YtacmidlhfcnkiaaHL1
import Derived.Test.YtacmidlhfcnkiaaHL2
import Derived.Test.YtacmidlhfcnkiaaHL3
import Derived.Test.YtacmidlhfcnkiaaHL4
namespace Go.Proofs.Ytacmidlhfcnkiaa
open Go.RowKit
set_option linter.unusedVariables false

/-- Step of the document's, whatever is there. -/
theorem rstep_calls {w : World} {p : Nat} {T : List Nat} {L : List Fm} (h : Fr TR w p T L) (s : Int) : Calls Try.prog 31 #[Pt p, .int .i64 s] w (Stepped TR w p T (stepEnd s L) (errK 3 (-26) L) (stepL s L)) := by
  rcases snoc_cases L with rfl | ⟨A, q, rfl⟩
  · exact rstep_nil h s
  · rw [(stepEnd_snoc s A q).1, (stepEnd_snoc s A q).2]
    unfold errK
    rw [topK_snoc]
    by_cases hk : q.k = 3
    · rw [if_pos hk, if_pos hk]
      cases he : endsF (wrap64 (q.x - q.y)) s with
      | true =>
        have := rstep_over h hk s he
        simpa [hk] using this
      | false =>
        have : Calls Try.prog 31 #[Pt p, .int .i64 s] w (Stepped TR w p T false 0 (A ++ [{ q with x := wrap64 (q.x + s) }])) := by
          rcases ends_not he with h1 | h1 | h1 | h1
          · exact rstep_on1 h hk s rfl h1
          · exact rstep_on2 h hk s rfl h1
          · exact rstep_on3 h hk s rfl h1
          · exact rstep_on4 h hk s rfl h1
        simpa [hk] using this
    · rw [if_neg hk, if_neg hk]
      have := rstep_wrong h hk s
      simpa [hk] using this
section
variable {w0 w w' : World} {p q : Nat} {L M L' M' : List Fm} {D : List Nat}
theorem Fp.push (h : Fp w0 w p q L M D) {f : Fm} {s : Value} (hs : Ls w s f.l) (hb : f.l.length ≤ 1000) : Calls Try.prog 21 #[Pt p, frV f s] w fun e w' => e = .returned (.int .i64 (pushE L)) ∧ Fp w0 w' p q (pushL L f) M D ∧ Kp D w w' := by
  obtain ⟨T, U, hP, hR, hT, hU, m0, hD⟩ := h
  exact (push_calls hP hs hb).mono fun e w' ⟨h1, T', h2, h3⟩ => ⟨h1, Fp.turn hP hR hT hU m0 hD h2 h3⟩
theorem Fp.rpush (h : Fp w0 w p q L M D) {f : Fm} {s : Value} (hs : Ls w s f.l) (hb : f.l.length ≤ 1000) : Calls Try.prog 28 #[Pt q, frV f s] w fun e w' => e = .returned (.int .i64 (pushE M)) ∧ Fp w0 w' p q L (pushL M f) D ∧ Kp D w w' := by
  obtain ⟨T, U, hP, hR, hT, hU, m0, hD⟩ := h
  exact (rpush_calls hR hs hb).mono fun e w' ⟨h1, T', h2, h3⟩ => ⟨h1, Fp.turnR hP hR hT hU m0 hD h2 h3⟩
theorem Fp.cut (h : Fp w0 w p q L M D) (n : Int) : Calls Try.prog 18 #[Pt p, .int .i64 n] w fun e w' => (∃ r, e = .returned r) ∧ Fp w0 w' p q (cutL n L) M D ∧ Kp D w w' := by
  obtain ⟨T, U, hP, hR, hT, hU, m0, hD⟩ := h
  exact (cut_calls hP n).mono fun e w' ⟨h1, T', h2, h3⟩ => ⟨h1, Fp.turn hP hR hT hU m0 hD h2 h3⟩
theorem Fp.rcut (h : Fp w0 w p q L M D) (n : Int) : Calls Try.prog 19 #[Pt q, .int .i64 n] w fun e w' => (∃ r, e = .returned r) ∧ Fp w0 w' p q L (cutL n M) D ∧ Kp D w w' := by
  obtain ⟨T, U, hP, hR, hT, hU, m0, hD⟩ := h
  exact (rcut_calls hR n).mono fun e w' ⟨h1, T', h2, h3⟩ => ⟨h1, Fp.turnR hP hR hT hU m0 hD h2 h3⟩
theorem Fp.step (h : Fp w0 w p q L M D) (s : Int) : Calls Try.prog 23 #[Pt p, .int .i64 s] w fun e w' => e = .returned (.tuple #[.bool (stepEnd s L), .int .i64 (errK 3 (-26) L)]) ∧ Fp w0 w' p q (stepL s L) M D ∧ Kp D w w' := by
  obtain ⟨T, U, hP, hR, hT, hU, m0, hD⟩ := h
  exact (step_calls hP s).mono fun e w' ⟨h1, T', h2, h3⟩ => ⟨h1, Fp.turn hP hR hT hU m0 hD h2 h3⟩
theorem Fp.rstep (h : Fp w0 w p q L M D) (s : Int) : Calls Try.prog 31 #[Pt q, .int .i64 s] w fun e w' => e = .returned (.tuple #[.bool (stepEnd s M), .int .i64 (errK 3 (-26) M)]) ∧ Fp w0 w' p q L (stepL s M) D ∧ Kp D w w' := by
  obtain ⟨T, U, hP, hR, hT, hU, m0, hD⟩ := h
  exact (rstep_calls hR s).mono fun e w' ⟨h1, T', h2, h3⟩ => ⟨h1, Fp.turnR hP hR hT hU m0 hD h2 h3⟩
theorem Fp.set (h : Fp w0 w p q L M D) (i x : Int) : Calls Try.prog 25 #[Pt p, .int .i64 i, .int .i64 x] w fun e w' => e = .returned (.int .i64 (orE (-6) (localL i L))) ∧ Fp w0 w' p q (setL i x L) M D ∧ Kp D w w' := by
  obtain ⟨T, U, hP, hR, hT, hU, m0, hD⟩ := h
  exact (set_calls hP i x).mono fun e w' ⟨h1, T', h2, h3⟩ => ⟨h1, Fp.turn hP hR hT hU m0 hD h2 h3⟩
theorem Fp.rset (h : Fp w0 w p q L M D) (i x : Int) : Calls Try.prog 33 #[Pt q, .int .i64 i, .int .i64 x] w fun e w' => e = .returned (.int .i64 (orE (-6) (localL i M))) ∧ Fp w0 w' p q L (setL i x M) D ∧ Kp D w w' := by
  obtain ⟨T, U, hP, hR, hT, hU, m0, hD⟩ := h
  exact (rset_calls hR i x).mono fun e w' ⟨h1, T', h2, h3⟩ => ⟨h1, Fp.turnR hP hR hT hU m0 hD h2 h3⟩
theorem Fp.index (h : Fp w0 w p q L M D) (t : Int) : Calls Try.prog 22 #[Pt p, .int .i64 t] w fun e w' => e = .returned (.tuple #[.int .i64 ((indexL t L).getD 0), .int .i64 (orE (-26) (indexL t L))]) ∧ Fp w0 w' p q L M D ∧ Kp D w w' := by
  have hh := h
  obtain ⟨T, U, ⟨v, O, hv, rfl, rfl, hsm⟩, _⟩ := h
  exact (index_calls hv t).mono fun e w' ⟨h1, h2⟩ => ⟨h1, hh.far h2, Kp.far h2⟩
theorem Fp.rindex (h : Fp w0 w p q L M D) (t : Int) : Calls Try.prog 30 #[Pt q, .int .i64 t] w fun e w' => e = .returned (.tuple #[.int .i64 ((indexL t M).getD 0), .int .i64 (orE (-26) (indexL t M))]) ∧ w = w' := by
  obtain ⟨T, U, _, ⟨v, O, hv, rfl, rfl, hsm⟩, _⟩ := h
  exact rindex_calls hv t
theorem Fp.get (h : Fp w0 w p q L M D) (i : Int) : Calls Try.prog 24 #[Pt p, .int .i64 i] w fun e w' => e = .returned (.tuple #[.int .i64 ((localL i L).getD 0), .int .i64 (orE (-6) (localL i L))]) ∧ Fp w0 w' p q L M D ∧ Kp D w w' := by
  have hh := h
  obtain ⟨T, U, hP, _⟩ := h
  exact (get_calls hP i).mono fun e w' ⟨h1, h2⟩ => ⟨h1, hh.far h2, Kp.far h2⟩
theorem Fp.rget (h : Fp w0 w p q L M D) (i : Int) : Calls Try.prog 32 #[Pt q, .int .i64 i] w fun e w' => e = .returned (.tuple #[.int .i64 ((localL i M).getD 0), .int .i64 (orE (-6) (localL i M))]) ∧ w = w' := by
  obtain ⟨T, U, _, hR, _⟩ := h
  exact rget_calls hR i
theorem Fp.depth (h : Fp w0 w p q L M D) (n : Nat) (hn : L.length = n) : Calls Try.prog 14 #[Pt p] w fun e w' => e = .returned (.int .i64 (n : Int)) ∧ w = w' := by
  obtain ⟨T, U, hP, _⟩ := h
  exact depth_calls hP n hn
/-- What is told of a call on either: a frame, its locals kept beside. -/
def Told (w0 w : World) (p q : Nat) (L M : List Fm) (D : List Nat) (f : Fm) (r : Value) (e : Ending) (w' : World) : Prop :=
  ∃ s', e = .returned (.tuple #[frV f s', r]) ∧ Lc w' s' f.l ∧ Fp w0 w' p q L M (s'.ownBlock.toList ++ D) ∧ Kp D w w'
theorem Fp.pop (h : Fp w0 w p q L M D) (k : Int) : Calls Try.prog 27 #[Pt p, .int .i64 k] w (Told w0 w p q (popL k L) M D ((topK k L).getD zF) (.int .i64 (errK k (-6) L))) := by
  obtain ⟨T, U, hP, hR, hT, hU, m0, hD⟩ := h
  exact (pop_calls hP k).mono fun e w' ⟨s', h1, h2, T', h3, h4, h5⟩ => ⟨s', h1, h2, Fp.gone hP hR hT hU m0 hD h3 h4 h2 h5⟩
theorem Fp.rpop (h : Fp w0 w p q L M D) (k : Int) : Calls Try.prog 29 #[Pt q, .int .i64 k] w (Told w0 w p q L (popL k M) D ((topK k M).getD zF) (.int .i64 (errK k (-6) M))) := by
  obtain ⟨T, U, hP, hR, hT, hU, m0, hD⟩ := h
  exact (rpop_calls hR k).mono fun e w' ⟨s', h1, h2, T', h3, h4, h5⟩ => ⟨s', h1, h2, Fp.goneR hP hR hT hU m0 hD h3 h4 h2 h5⟩
theorem Fp.catch_ (h : Fp w0 w p q L M D) : Calls Try.prog 26 #[Pt p] w (Told w0 w p q (catchL L) M D ((caught L).getD zF) (.bool (caught L).isSome)) := by
  obtain ⟨T, U, hP, hR, hT, hU, m0, hD⟩ := h
  exact (catch_calls hP).mono fun e w' ⟨s', h1, h2, T', h3, h4, h5⟩ => ⟨s', h1, h2, Fp.gone hP hR hT hU m0 hD h3 h4 h2 h5⟩
theorem Fp.rcatch (h : Fp w0 w p q L M D) : Calls Try.prog 34 #[Pt q] w (Told w0 w p q L (catchL M) D ((caught M).getD zF) (.bool (caught M).isSome)) := by
  obtain ⟨T, U, hP, hR, hT, hU, m0, hD⟩ := h
  exact (rcatch_calls hR).mono fun e w' ⟨s', h1, h2, T', h3, h4, h5⟩ => ⟨s', h1, h2, Fp.goneR hP hR hT hU m0 hD h3 h4 h2 h5⟩
theorem Fp.top (h : Fp w0 w p q L M D) : Calls Try.prog 15 #[Pt p] w (Told w0 w p q L M D (topV L) (.bool L.getLast?.isSome)) := by
  obtain ⟨T, U, hP, hR, hT, hU, m0, hD⟩ := h
  exact (top_calls hP).mono fun e w' ⟨s', h1, h2, h3⟩ => ⟨s', h1, h2.1, Fp.gone hP hR hT hU m0 hD (hP.far h3) ((Turn.refl T w).far h3) h2.1 fun g hg => ⟨Or.inr (h2.2 g hg), hP.above (h2.2 g hg)⟩⟩
theorem Fp.rtop (h : Fp w0 w p q L M D) : Calls Try.prog 16 #[Pt q] w (Told w0 w p q L M D (topV M) (.bool M.getLast?.isSome)) := by
  obtain ⟨T, U, hP, hR, hT, hU, m0, hD⟩ := h
  exact (rtop_calls hR).mono fun e w' ⟨s', h1, h2, h3⟩ => ⟨s', h1, h2.1, Fp.goneR hP hR hT hU m0 hD (hR.far h3) ((Turn.refl U w).far h3) h2.1 fun g hg => ⟨Or.inr (h2.2 g hg), hR.above (h2.2 g hg)⟩⟩
end
end Go.Proofs.Ytacmidlhfcnkiaa
