/- Layer 14: frames that a law made (Fo), each call on them; the document's examples (shown). No condition. -/
import Derived.Test.YtacmidlhfcnkiaaGN
namespace Go.Proofs.Ytacmidlhfcnkiaa
open Go.RowKit
set_option linter.unusedVariables false

/-- Frames at p, new since w0, where nothing older turned; the slices K, kept beside, lie apart from their blocks. -/
def Fo (tB : TypeId) (w0 w : World) (p : Nat) (L : List Fm) (K : List (Value × List Int)) : Prop :=
  ∃ T, Fr tB w p T L ∧ (∀ x ∈ T, w0.heap.size ≤ x) ∧ Mod [] w0 w ∧ ∀ k ∈ K, Ls w k.1 k.2 ∧ ∀ g, k.1.ownBlock = some g → g ∉ T ∧ g < w.heap.size
variable {tB : TypeId} {w0 w w' : World} {p : Nat} {q : Fm} {L L' : List Fm} {K : List (Value × List Int)}
theorem Fo.mod (h : Fo tB w0 w p L K) : Mod [] w0 w := by obtain ⟨T, _, _, m, _⟩ := h; exact m
theorem Fo.small (h : Fo tB w0 w p L K) : ∀ q ∈ L, q.l.length ≤ 1000 := by obtain ⟨T, hF, _⟩ := h; exact hF.small
theorem Fo.few (h : Fo tB w0 w p L K) : L.length ≤ 128 := by obtain ⟨T, hF, _⟩ := h; exact hF.few
theorem Fo.far (h : Fo tB w0 w p L K) (m : Mod [] w w') : Fo tB w0 w' p L K := by
  obtain ⟨T, hF, hT, m0, hK⟩ := h
  exact ⟨T, hF.far m, hT, m0.trans m, fun k hk => ⟨(hK k hk).1.far m, fun g hg => ⟨((hK k hk).2 g hg).1, Nat.lt_of_lt_of_le ((hK k hk).2 g hg).2 m.size⟩⟩⟩
theorem Fo.kept (h : Fo tB w0 w p L K) {k : Value × List Int} (hk : k ∈ K) : Ls w k.1 k.2 := by
  obtain ⟨T, _, _, _, hK⟩ := h
  exact (hK k hk).1
theorem Fo.less (h : Fo tB w0 w p L K) {K' : List (Value × List Int)} (hs : ∀ k ∈ K', k ∈ K) : Fo tB w0 w p L K' := by
  obtain ⟨T, hF, hT, m0, hK⟩ := h
  exact ⟨T, hF, hT, m0, fun k hk => hK k (hs k hk)⟩
theorem Fo.turn {T T' : List Nat} (hF : Fr tB w p T L) (hT : ∀ x ∈ T, w0.heap.size ≤ x) (m : Mod [] w0 w) (hK : ∀ k ∈ K, Ls w k.1 k.2 ∧ ∀ g, k.1.ownBlock = some g → g ∉ T ∧ g < w.heap.size) (hF' : Fr tB w' p T' L') (hu : Turn T T' w w') : Fo tB w0 w' p L' K :=
  ⟨T', hF', fun x hx => (hu.2 x hx).elim (hT x) fun hl => Nat.le_trans m.size hl, m.then hu.1 fun x hx => Or.inr (hT x hx), fun k hk => ⟨(hK k hk).1.mod hu.1 fun g hg => ((hK k hk).2 g hg).1, fun g hg => ⟨fun hx => (hu.2 g hx).elim ((hK k hk).2 g hg).1 fun hl => by have := ((hK k hk).2 g hg).2; omega, Nat.lt_of_lt_of_le ((hK k hk).2 g hg).2 hu.1.size⟩⟩⟩
/-- A slice of an argument, kept beside. -/
theorem Fo.arg (h : Fo tB w0 w p L K) {s : Value} {l : List Int} (hs : Ls w0 s l) (hl : ∀ g, s.ownBlock = some g → g < w0.heap.size) : Fo tB w0 w p L ((s, l) :: K) := by
  obtain ⟨T, hF, hT, m0, hK⟩ := h
  refine ⟨T, hF, hT, m0, fun k hk => ?_⟩
  rcases List.mem_cons.1 hk with rfl | hk
  · exact ⟨hs.far m0, fun g hg => ⟨fun hx => by have := hT g hx; have := hl g hg; omega, Nat.lt_of_lt_of_le (hl g hg) m0.size⟩⟩
  · exact hK k hk
theorem new_fo (m : Mod [] w0 w) : Calls Try.prog 11 #[] w fun e w' => ∃ p, e = .returned (Pt p) ∧ Fo TP w0 w' p [] [] ∧ Mod [] w w' :=
  (new_calls w).mono fun e w' ⟨p, h1, h2, h3, h4⟩ => ⟨p, h1, ⟨[p], h2, fun x hx => by rw [List.mem_singleton.1 hx]; exact Nat.le_trans m.size h4, m.trans h3, by simp⟩, h3⟩
theorem Fo.push (h : Fo TP w0 w p L K) {q : Fm} {s : Value} (hs : Ls w s q.l) (hb : q.l.length ≤ 1000) : Calls Try.prog 21 #[Pt p, frV q s] w fun e w' => e = .returned (.int .i64 (pushE L)) ∧ Fo TP w0 w' p (pushL L q) K := by
  obtain ⟨T, hF, hT, m0, hK⟩ := h
  exact (push_calls hF hs hb).mono fun e w' ⟨h1, T', h2, h3⟩ => ⟨h1, Fo.turn hF hT m0 hK h2 h3⟩
theorem Fo.cut (h : Fo TP w0 w p L K) (n : Int) : Calls Try.prog 18 #[Pt p, .int .i64 n] w fun e w' => (∃ r, e = .returned r) ∧ Fo TP w0 w' p (cutL n L) K := by
  obtain ⟨T, hF, hT, m0, hK⟩ := h
  exact (cut_calls hF n).mono fun e w' ⟨h1, T', h2, h3⟩ => ⟨h1, Fo.turn hF hT m0 hK h2 h3⟩
theorem Fo.step (h : Fo TP w0 w p L K) (s : Int) : Calls Try.prog 23 #[Pt p, .int .i64 s] w fun e w' => e = .returned (.tuple #[.bool (stepEnd s L), .int .i64 (errK 3 (-26) L)]) ∧ Fo TP w0 w' p (stepL s L) K := by
  obtain ⟨T, hF, hT, m0, hK⟩ := h
  exact (step_calls hF s).mono fun e w' ⟨h1, T', h2, h3⟩ => ⟨h1, Fo.turn hF hT m0 hK h2 h3⟩
theorem Fo.depth (h : Fo TP w0 w p L K) (n : Nat) (hn : L.length = n) : Calls Try.prog 14 #[Pt p] w fun e w' => e = .returned (.int .i64 (n : Int)) ∧ w = w' := by
  obtain ⟨T, hF, hT, m0, hK⟩ := h
  exact depth_calls hF n hn
theorem Fo.index (h : Fo TP w0 w p L K) (t : Int) : Calls Try.prog 22 #[Pt p, .int .i64 t] w fun e w' => e = .returned (.tuple #[.int .i64 ((indexL t L).getD 0), .int .i64 (orE (-26) (indexL t L))]) ∧ Fo TP w0 w' p L K := by
  have hh := h
  obtain ⟨T, ⟨v, O, hv, rfl, rfl, hsm⟩, hT, m0, hK⟩ := h
  exact (index_calls hv t).mono fun e w' ⟨h1, h2⟩ => ⟨h1, hh.far h2⟩
theorem Fo.get (h : Fo TP w0 w p L K) (i : Int) : Calls Try.prog 24 #[Pt p, .int .i64 i] w fun e w' => e = .returned (.tuple #[.int .i64 ((localL i L).getD 0), .int .i64 (orE (-6) (localL i L))]) ∧ Fo TP w0 w' p L K := by
  have hh := h
  obtain ⟨T, hF, hT, m0, hK⟩ := h
  exact (get_calls hF i).mono fun e w' ⟨h1, h2⟩ => ⟨h1, hh.far h2⟩
theorem Fo.set (h : Fo TP w0 w p L K) (i x : Int) : Calls Try.prog 25 #[Pt p, .int .i64 i, .int .i64 x] w fun e w' => e = .returned (.int .i64 (orE (-6) (localL i L))) ∧ Fo TP w0 w' p (setL i x L) K := by
  obtain ⟨T, hF, hT, m0, hK⟩ := h
  exact (set_calls hF i x).mono fun e w' ⟨h1, T', h2, h3⟩ => ⟨h1, Fo.turn hF hT m0 hK h2 h3⟩
/-- A frame that is told: its locals are kept beside. -/
theorem Fo.tell {T T' : List Nat} {s' : Value} {l : List Int} (hF : Fr tB w p T L) (hT : ∀ x ∈ T, w0.heap.size ≤ x) (m : Mod [] w0 w) (hK : ∀ k ∈ K, Ls w k.1 k.2 ∧ ∀ g, k.1.ownBlock = some g → g ∉ T ∧ g < w.heap.size) (hF' : Fr tB w' p T' L') (hu : Turn T T' w w') (hl : Lc w' s' l) (hs : ∀ g, s'.ownBlock = some g → g ∉ T') : Fo tB w0 w' p L' ((s', l) :: K) := by
  obtain ⟨T2, h1, h2, h3, h4⟩ := Fo.turn hF hT m hK hF' hu
  refine ⟨T', hF', fun x hx => (hu.2 x hx).elim (hT x) fun hl => Nat.le_trans m.size hl, h3, fun k hk => ?_⟩
  rcases List.mem_cons.1 hk with rfl | hk
  · exact ⟨hl.ls, fun g hg => ⟨hs g hg, hl.lt g hg⟩⟩
  · exact ⟨(h4 k hk).1, fun g hg => ⟨fun hx => (hu.2 g hx).elim ((hK k hk).2 g hg).1 fun hl => by have := ((hK k hk).2 g hg).2; omega, ((h4 k hk).2 g hg).2⟩⟩
theorem Fo.pop (h : Fo TP w0 w p L K) (k : Int) : Calls Try.prog 27 #[Pt p, .int .i64 k] w fun e w' => ∃ s', e = .returned (.tuple #[frV ((topK k L).getD zF) s', .int .i64 (errK k (-6) L)]) ∧ Fo TP w0 w' p (popL k L) ((s', ((topK k L).getD zF).l) :: K) := by
  obtain ⟨T, hF, hT, m0, hK⟩ := h
  exact (pop_calls hF k).mono fun e w' ⟨s', h1, h2, T', h3, h4, h5⟩ => ⟨s', h1, Fo.tell hF hT m0 hK h3 h4 h2 fun g hg => (h5 g hg).2⟩
theorem Fo.top (h : Fo TP w0 w p L K) : Calls Try.prog 15 #[Pt p] w fun e w' => ∃ s', e = .returned (.tuple #[frV (topV L) s', .bool L.getLast?.isSome]) ∧ Fo TP w0 w' p L ((s', (topV L).l) :: K) ∧ Lc w' s' (topV L).l := by
  obtain ⟨T, hF, hT, m0, hK⟩ := h
  exact (top_calls hF).mono fun e w' ⟨s', h1, h2, h3⟩ => ⟨s', h1, Fo.tell hF hT m0 hK (hF.far h3) ((Turn.refl T w).far h3) h2.1 (fun g hg hx => by have := hF.lt g hx; have := h2.2 g hg; omega), h2.1⟩
theorem Fo.catch_ (h : Fo TP w0 w p (L ++ q :: L') K) (hq : q.k = 5) (hB : ∀ b ∈ L', isCatch b = false) : Calls Try.prog 26 #[Pt p] w fun e w' => ∃ s', e = .returned (.tuple #[frV q s', .bool true]) ∧ Fo TP w0 w' p L ((s', q.l) :: K) := by
  obtain ⟨T, hF, hT, m0, hK⟩ := h
  exact (catch_yes hF hq hB).mono fun e w' ⟨s', h1, h2, T', h3, h4, h5⟩ => ⟨s', h1, Fo.tell hF hT m0 hK h3 h4 h2 fun g hg => (h5 g hg).2⟩
theorem Fo.catchNo (h : Fo TP w0 w p L K) (hB : ∀ b ∈ L, isCatch b = false) : Calls Try.prog 26 #[Pt p] w fun e w' => e = .returned (.tuple #[.agg zC, .bool false]) ∧ Fo TP w0 w' p L K := by
  have hh := h
  obtain ⟨T, hF, hT, m0, hK⟩ := h
  exact (catch_no hF hB).mono fun e w' ⟨h1, h2⟩ => ⟨h1, hh.far h2⟩
theorem Ls.nil (w : World) : Ls w (.slice none 0 0) [] := (Lc.nil w).ls
set_option maxHeartbeats 2000000 in
theorem shown_calls (w : World) : Calls Try.prog 10 #[] w fun e w' => e = .returned (.bool true) ∧ Mod [] w w' := by
  have H1 := Lib.hid (new_fo (Mod.refl [] w))
  go_enter Try.func10, Try.ntmps10
  go_wp2_with fail
  refine (H1.out).mono ?_
  rintro e w1 ⟨p, rfl, hF, _⟩
  have H2 := Lib.hid (hF.push (q := ⟨3, 0, 0, 0, 2, []⟩) (Ls.nil w1) (by decide))
  clear hF H1
  go_wp2_with fail
  refine (H2.out).mono ?_
  rintro e w2 ⟨rfl, hF⟩
  have H3 := Lib.hid (hF.step 1)
  rw [show stepEnd 1 (pushL [] ⟨3, 0, 0, 0, 2, []⟩) = false by decide +kernel, show stepL 1 (pushL [] ⟨3, 0, 0, 0, 2, []⟩) = [⟨3, 0, 0, 1, 2, []⟩] by kernel_rfl, show errK 3 (-26) (pushL [] ⟨3, 0, 0, 0, 2, []⟩) = 0 by decide +kernel] at H3
  rw [show pushE [] = 0 by decide +kernel]
  clear hF H2
  go_wp2_with fail
  refine (H3.out).mono ?_
  rintro e w3 ⟨rfl, hF⟩
  have H4 := Lib.hid (hF.step 1)
  rw [show stepEnd 1 [⟨3, 0, 0, 1, 2, []⟩] = true by decide +kernel, show stepL 1 [⟨3, 0, 0, 1, 2, []⟩] = [] by kernel_rfl, show errK 3 (-26) [⟨3, 0, 0, 1, 2, []⟩] = 0 by decide +kernel] at H4
  clear hF H3
  go_wp2_with fail
  refine (H4.out).mono ?_
  rintro e w4 ⟨rfl, hF⟩
  have H5 := Lib.hid (hF.depth 0 rfl)
  have HM := Lib.hid hF.mod
  clear hF H4
  go_wp2_with fail
  refine (H5.out).mono ?_
  rintro e w5 ⟨rfl, rfl⟩
  go_wp2_with fail
  go_ret
  exact ⟨rfl, HM.out⟩
end Go.Proofs.Ytacmidlhfcnkiaa
