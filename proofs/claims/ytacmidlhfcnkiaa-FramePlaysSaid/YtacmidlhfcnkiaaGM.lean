/- Layer 14 (package frame): local, Local, SetLocal. Condition: the block is frames (Fr). -/
import Derived.Test.YtacmidlhfcnkiaaGL
namespace Go.Proofs.Ytacmidlhfcnkiaa
open Go.RowKit
set_option linter.unusedVariables false

theorem kinds_hides : kindsP [4, 1] = hides := by
  funext q
  simp [kindsP, hides]
theorem kinds_catch : kindsP [5] = isCatch := by
  funext q
  simp [kindsP, isCatch]
theorem topI_is {ks : List Int} {A : List Fm} {q : Fm} {B : List Fm} (h : kindsP ks q = true) (hB : ∀ b ∈ B, kindsP ks b = false) : topI ks (A ++ q :: B) = (A.length : Int) := by
  unfold topI
  rw [topP_is h hB]
theorem topI_no {ks : List Int} {L : List Fm} (h : ∀ q ∈ L, kindsP ks q = false) : topI ks L = -1 := by
  unfold topI
  rw [topP_none h]
/-- The literal row of kinds [4, 1]. -/
theorem row41 (w : World) : Sl (w.alloc (.cells #[.int .i64 4, .int .i64 1] 3)) (some ⟨w.heap.size, 0, none⟩) [4, 1] := fun j hj => by
  have hb := (MapKept.heap_alloc w (.cells #[.int .i64 4, .int .i64 1] 3)).1
  have : j = 0 ∨ j = 1 := by simp at hj; omega
  rcases this with rfl | rfl
  · exact ⟨_, 0, rfl, cell_eq hb 0⟩
  · exact ⟨_, 0, rfl, cell_eq hb 1⟩
theorem row5 (w : World) : Sl (w.alloc (.cells #[.int .i64 5] 3)) (some ⟨w.heap.size, 0, none⟩) [5] := fun j hj => by
  have hb := (MapKept.heap_alloc w (.cells #[.int .i64 5] 3)).1
  have : j = 0 := by simp at hj; omega
  subst this
  exact ⟨_, 0, rfl, cell_eq hb 0⟩
/-- The call of topmost behind the literal row. -/
theorem top41 {w : World} {p : Nat} {v : Value} {O : List (Fm × Value)} (h : Fv TP w p v O) : Calls Try.prog 40 #[Pt p, .slice (some ⟨w.heap.size, 0, none⟩) 2 2] (w.alloc (.cells #[.int .i64 4, .int .i64 1] 3)) fun e w' => e = .returned (.int .i64 (topI [4, 1] (O.map Prod.fst))) ∧ Mod [] w w' :=
  (topmost_calls (kc := 2) (h.far (al_mod w _)) (row41 w) rfl (by decide)).mono fun e w' ⟨h1, h2⟩ => ⟨h1, (al_mod w _).trans h2⟩
theorem top5 {w : World} {p : Nat} {v : Value} {O : List (Fm × Value)} (h : Fv TP w p v O) : Calls Try.prog 40 #[Pt p, .slice (some ⟨w.heap.size, 0, none⟩) 1 1] (w.alloc (.cells #[.int .i64 5] 3)) fun e w' => e = .returned (.int .i64 (topI [5] (O.map Prod.fst))) ∧ Mod [] w w' :=
  (topmost_calls (kc := 1) (h.far (al_mod w _)) (row5 w) rfl (by decide)).mono fun e w' ⟨h1, h2⟩ => ⟨h1, (al_mod w _).trans h2⟩
set_option maxHeartbeats 2000000 in
theorem local_none1 {w : World} {p : Nat} {v : Value} {O : List (Fm × Value)} (h : Fv TP w p v O) (hn : ∀ q ∈ O.map Prod.fst, hides q = false) (i : Int) : Calls Try.prog 39 #[Pt p, .int .i64 i] w fun e w' => e = .returned (.tuple #[.pointer none, .int .i64 (-6)]) ∧ Mod [] w w' := by
  have H1 := Lib.hid (top41 h)
  rw [topI_no (by rw [kinds_hides]; exact hn)] at H1
  clear h hn
  go_enter Try.func39, Try.ntmps39
  go_wp2_with fail
  refine (H1.out).mono ?_
  rintro e w1 ⟨rfl, hm⟩
  have HM := Lib.hid hm
  clear hm
  go_wp2_with fail
  exact bodyPost_ret (results_tmp2 Try.results39 _ _ _) rfl ⟨rfl, HM.out⟩
set_option maxHeartbeats 2000000 in
theorem local_other {w : World} {p : Nat} {v : Value} {A B : List (Fm × Value)} {q : Fm} {s : Value} (h : Fv TP w p v (A ++ (q, s) :: B)) (hq : hides q = true) (hB : ∀ b ∈ B.map Prod.fst, hides b = false) (h4 : q.k ≠ 4) (i : Int) : Calls Try.prog 39 #[Pt p, .int .i64 i] w fun e w' => e = .returned (.tuple #[.pointer none, .int .i64 (-6)]) ∧ Mod [] w w' := by
  have H1 := Lib.hid (top41 h)
  rw [List.map_append, List.map_cons, topI_is (by rw [kinds_hides]; exact hq) (by rw [kinds_hides]; exact hB), List.length_map] at H1
  obtain ⟨g, cap, rfl, _, hc, _, hle, hcap⟩ := h.at_
  have hfew := h.few
  have c0 := h.c0
  have r0 : w.cell? ⟨g, A.length * 6, none⟩ = some (.int .i64 q.k) := hc 0 (by omega)
  obtain ⟨n, hn⟩ : ∃ n, n = (A ++ (q, s) :: B).length := ⟨_, rfl⟩
  have hmn : A.length < n := by rw [hn]; simp
  rw [← hn] at c0 hfew
  obtain ⟨m, hm⟩ : ∃ m, m = A.length := ⟨_, rfl⟩
  rw [← hm] at H1 r0 hmn
  have hmnI : (m : Int) < (n : Int) := by omega
  have hm0 : ¬ (m : Int) < 0 := by omega
  have hm00 : (0 : Int) ≤ (m : Int) := by omega
  obtain ⟨k, hk⟩ : ∃ k, k = q.k := ⟨_, rfl⟩
  rw [← hk] at r0 h4
  have hk4 : (k != 4) = true := by simpa using h4
  have hK := Lib.hid (fun W (m : Mod [] w W) => (⟨m.cell (by simp) c0, m.cell (by simp) r0⟩ : _ ∧ _))
  clear h hq hB hc hn hm hk c0 r0 h4 hle
  go_enter Try.func39, Try.ntmps39
  go_wp2_with fail
  refine (H1.out).mono ?_
  rintro e w1 ⟨rfl, hm⟩
  obtain ⟨c0, r0⟩ := hK.out w1 hm
  have HM := Lib.hid hm
  clear hm hK
  go_wp2_with fail
  exact bodyPost_ret (results_tmp2 Try.results39 _ _ _) rfl ⟨rfl, HM.out⟩
set_option maxHeartbeats 4000000 in
theorem local_at {w : World} {p : Nat} {v : Value} {A B : List (Fm × Value)} {q : Fm} {s : Value} (h : Fv TP w p v (A ++ (q, s) :: B)) (hq : q.k = 4) (hB : ∀ b ∈ B.map Prod.fst, hides b = false) (i : Int) : Calls Try.prog 39 #[Pt p, .int .i64 i] w fun e w' => ((¬ (0 ≤ i ∧ i < (q.l.length : Int)) ∧ e = .returned (.tuple #[.pointer none, .int .i64 (-6)])) ∨ (∃ k b c : Nat, i = (k : Int) ∧ k < q.l.length ∧ s = .slice (some ⟨b, 0, none⟩) q.l.length c ∧ e = .returned (.tuple #[.pointer (some ⟨b, k, none⟩), .int .i64 0]))) ∧ Mod [] w w' := by
  have H1 := Lib.hid (top41 h)
  rw [List.map_append, List.map_cons, topI_is (by rw [kinds_hides]; simp [hides, hq]) (by rw [kinds_hides]; exact hB), List.length_map] at H1
  obtain ⟨g, cap, rfl, _, hc, _, hle, hcap⟩ := h.at_
  have hfew := h.few
  have c0 := h.c0
  have r0 : w.cell? ⟨g, A.length * 6, none⟩ = some (.int .i64 4) := (hc 0 (by omega)).trans (by rw [← hq]; rfl)
  have r5 : w.cell? ⟨g, A.length * 6 + 5, none⟩ = some s := hc 5 (by omega)
  have hlc := h.loc (q, s) (by simp)
  obtain ⟨n, hn⟩ : ∃ n, n = (A ++ (q, s) :: B).length := ⟨_, rfl⟩
  have hmn : A.length < n := by rw [hn]; simp
  rw [← hn] at c0 hfew
  obtain ⟨m, hm⟩ : ∃ m, m = A.length := ⟨_, rfl⟩
  rw [← hm] at H1 r0 r5 hmn
  have hmnI : (m : Int) < (n : Int) := by omega
  have hm0 : ¬ (m : Int) < 0 := by omega
  have hm00 : (0 : Int) ≤ (m : Int) := by omega
  obtain ⟨A1, c1, hs, _, hl1, hl2, _⟩ := hlc.ls
  dsimp only at hs hl1
  obtain ⟨ln, hln⟩ : ∃ ln, ln = q.l.length := ⟨_, rfl⟩
  have hA1 : 0 < ln → ∃ b, A1 = some ⟨b, 0, none⟩ := fun hp => by
    rcases hlc with ⟨e, h0⟩ | ⟨b, c, e, _⟩
    · simp only at h0; rw [hln, h0] at hp; exact absurd hp (by simp)
    · dsimp only at e
      rw [hs] at e
      injection e with e
      exact ⟨b, e⟩
  rw [← hln] at hs hl1 ⊢
  rw [hs] at r5
  have hK := Lib.hid (fun W (m : Mod [] w W) => (⟨m.cell (by simp) c0, m.cell (by simp) r0, m.cell (by simp) r5⟩ : _ ∧ _ ∧ _))
  have HS := Lib.hid (And.intro hs hA1)
  clear h hB hc hn hm c0 r0 r5 hle hlc hs hA1 hln hq
  by_cases h0 : i < 0
  · go_enter Try.func39, Try.ntmps39
    go_wp2_with fail
    refine (H1.out).mono ?_
    rintro e w1 ⟨rfl, hm⟩
    obtain ⟨c0, r0, r5⟩ := hK.out w1 hm
    have HM := Lib.hid hm
    clear hm hK
    go_wp2_with fail
    exact bodyPost_ret (results_tmp2 Try.results39 _ _ _) rfl ⟨Or.inl ⟨by omega, rfl⟩, HM.out⟩
  · obtain ⟨k, rfl⟩ : ∃ k : Nat, i = (k : Int) := ⟨i.toNat, by omega⟩
    by_cases h1 : k < ln
    · obtain ⟨b, hb⟩ := HS.out.2 (by omega)
      have HB := Lib.hid hb
      rw [hb] at hK
      have hkI : (k : Int) < (ln : Int) := by omega
      have hkI' : ¬ (ln : Int) ≤ (k : Int) := by omega
      have HH := Lib.hid h1
      clear hb h1
      go_enter Try.func39, Try.ntmps39
      go_wp2_with fail
      refine (H1.out).mono ?_
      rintro e w1 ⟨rfl, hm⟩
      obtain ⟨c0, r0, r5⟩ := hK.out w1 hm
      have HM := Lib.hid hm
      clear hm hK
      go_wp2_with fail
      exact bodyPost_ret (results_tmp2 Try.results39 _ _ _) rfl ⟨Or.inr ⟨k, b, c1, rfl, HH.out, by rw [HS.out.1, HB.out], rfl⟩, HM.out⟩
    · have hkI : (ln : Int) ≤ (k : Int) := by omega
      clear h1
      go_enter Try.func39, Try.ntmps39
      go_wp2_with fail
      refine (H1.out).mono ?_
      rintro e w1 ⟨rfl, hm⟩
      obtain ⟨c0, r0, r5⟩ := hK.out w1 hm
      have HM := Lib.hid hm
      clear hm hK
      go_wp2_with fail
      exact bodyPost_ret (results_tmp2 Try.results39 _ _ _) rfl ⟨Or.inl ⟨by omega, rfl⟩, HM.out⟩
/-- What local gives, whatever is there. -/
theorem local_any {w : World} {p : Nat} {v : Value} {O : List (Fm × Value)} (h : Fv TP w p v O) (i : Int) : Calls Try.prog 39 #[Pt p, .int .i64 i] w fun e w' => ((placeL i (O.map Prod.fst) = none ∧ e = .returned (.tuple #[.pointer none, .int .i64 (-6)])) ∨ (∃ (A B : List (Fm × Value)) (q : Fm) (k b c : Nat), O = A ++ (q, .slice (some ⟨b, 0, none⟩) q.l.length c) :: B ∧ q.k = 4 ∧ (∀ x ∈ B.map Prod.fst, hides x = false) ∧ i = (k : Int) ∧ k < q.l.length ∧ e = .returned (.tuple #[.pointer (some ⟨b, k, none⟩), .int .i64 0]))) ∧ Mod [] w w' := by
  rcases top_cases hides (O.map Prod.fst) with hn | ⟨A, q, B, hO, hq, hB⟩
  · exact (local_none1 h hn i).mono fun e w' ⟨h1, h2⟩ => ⟨Or.inl ⟨place_none hn i, h1⟩, h2⟩
  · obtain ⟨A', C, rfl, rfl, hC⟩ := List.map_eq_append_iff.1 hO
    obtain ⟨⟨q', s⟩, B', rfl, rfl, rfl⟩ := List.map_eq_cons_iff.1 hC
    dsimp only at hq hO
    have hpl := place_is (A := A'.map Prod.fst) hq hB i
    rw [List.map_append, List.map_cons, hpl]
    by_cases h4 : q'.k = 4
    · refine (local_at h h4 hB i).mono fun e w' ⟨h1, h2⟩ => ⟨?_, h2⟩
      rcases h1 with ⟨k1, k2⟩ | ⟨k, b, c, k1, k2, k3, k4⟩
      · exact Or.inl ⟨by rw [if_neg fun hh => k1 ⟨hh.2.1, hh.2.2⟩], k2⟩
      · exact Or.inr ⟨A', B', q', k, b, c, by rw [k3], h4, hB, k1, k2, k4⟩
    · exact (local_other h hq hB h4 i).mono fun e w' ⟨h1, h2⟩ => ⟨Or.inl ⟨by rw [if_neg fun hh => h4 hh.1], h1⟩, h2⟩
theorem getL_is {A B : List Fm} {q : Fm} {k : Nat} (h4 : q.k = 4) (hB : ∀ x ∈ B, hides x = false) (hk : k < q.l.length) : localL (k : Int) (A ++ q :: B) = some (q.l[k]) := by
  rw [local_is (by simp [hides, h4]) hB, if_pos ⟨h4, by omega, by omega⟩]
  simp [hk]
theorem putL_is {A B : List Fm} {q : Fm} {k : Nat} (h4 : q.k = 4) (hB : ∀ x ∈ B, hides x = false) (hk : k < q.l.length) (x : Int) : setL (k : Int) x (A ++ q :: B) = A ++ { q with l := q.l.set k x } :: B := by
  rw [set_is (by simp [hides, h4]) hB, if_pos ⟨h4, by omega, by omega⟩, Int.toNat_natCast]
theorem local_ofNone {i : Int} {L : List Fm} (h : placeL i L = none) : localL i L = none ∧ ∀ x, setL i x L = L := by
  unfold localL setL
  rw [h]
  exact ⟨rfl, fun _ => rfl⟩
set_option maxHeartbeats 2000000 in
theorem get_calls {w : World} {p : Nat} {T : List Nat} {L : List Fm} (h : Fr TP w p T L) (i : Int) : Calls Try.prog 24 #[Pt p, .int .i64 i] w fun e w' => e = .returned (.tuple #[.int .i64 ((localL i L).getD 0), .int .i64 (orE (-6) (localL i L))]) ∧ Mod [] w w' := by
  obtain ⟨v, O, hv, rfl, rfl, _⟩ := h
  have H1 := Lib.hid (local_any hv i)
  have HV := Lib.hid hv
  clear hv
  obtain ⟨r, hr⟩ : ∃ r, r = localL i (O.map Prod.fst) := ⟨_, rfl⟩
  have HR := Lib.hid hr
  rw [← hr]
  clear hr
  go_enter Try.func24, Try.ntmps24
  go_wp2_with fail
  refine (H1.out).mono ?_
  rintro e w1 ⟨⟨hp, rfl⟩ | ⟨A, B, q, k, b, c, rfl, h4, hB, rfl, hk, rfl⟩, hm⟩
  · obtain rfl : r = none := HR.out.trans (local_ofNone hp).1
    have HM := Lib.hid hm
    clear hm hp
    go_wp2_with fail
    exact bodyPost_ret (results_tmp2 Try.results24 _ _ _) rfl ⟨rfl, HM.out⟩
  · have hr : r = some (q.l[k]) := HR.out.trans (by rw [List.map_append, List.map_cons]; exact getL_is h4 hB hk)
    have hc : w1.cell? ⟨b, k, none⟩ = some (.int .i64 (q.l[k])) := hm.cell (by simp) (by
      rcases HV.out.loc (q, .slice (some ⟨b, 0, none⟩) q.l.length c) (by simp) with ⟨e, _⟩ | ⟨b', c', e, ho⟩
      · cases e
      · injection e with e1
        injection e1 with e1
        injection e1 with e1
        subst e1
        exact ho.cell k hk)
    obtain ⟨y, hy⟩ : ∃ y, y = q.l[k] := ⟨_, rfl⟩
    rw [← hy] at hr hc
    subst hr
    have HM := Lib.hid hm
    clear hm h4 hB hk hy HR HV H1
    go_wp2_with fail
    exact bodyPost_ret (results_tmp2 Try.results24 _ _ _) rfl ⟨rfl, HM.out⟩
set_option maxHeartbeats 2000000 in
theorem set_calls {w : World} {p : Nat} {T : List Nat} {L : List Fm} (h : Fr TP w p T L) (i x : Int) : Calls Try.prog 25 #[Pt p, .int .i64 i, .int .i64 x] w (Gives TP w p T (.int .i64 (orE (-6) (localL i L))) (setL i x L)) := by
  have HH := Lib.hid h
  obtain ⟨v, O, hv, rfl, rfl, hsm⟩ := h
  have H1 := Lib.hid (local_any hv i)
  have HV := Lib.hid (And.intro hv hsm)
  clear hv hsm
  unfold Gives
  obtain ⟨r, hr⟩ : ∃ r, r = orE (-6) (localL i (O.map Prod.fst)) := ⟨_, rfl⟩
  have HR := Lib.hid hr
  rw [← hr]
  clear hr
  go_enter Try.func25, Try.ntmps25
  go_wp2_with fail
  refine (H1.out).mono ?_
  rintro e w1 ⟨⟨hp, rfl⟩ | ⟨A, B, q, k, b, c, rfl, h4, hB, rfl, hk, rfl⟩, hm⟩
  · obtain rfl : r = -6 := HR.out.trans (by rw [(local_ofNone hp).1]; rfl)
    have HM := Lib.hid (And.intro hm hp)
    clear hm hp
    go_wp2_with fail
    go_ret
    refine ⟨rfl, _, ?_, (Turn.refl _ _).far HM.out.1⟩
    rw [(local_ofNone HM.out.2).2]
    exact HH.out.far HM.out.1
  · obtain rfl : r = 0 := HR.out.trans (by rw [List.map_append, List.map_cons, getL_is h4 hB hk]; rfl)
    have hv1 := HV.out.1.far hm
    have hlc := hv1.loc (q, .slice (some ⟨b, 0, none⟩) q.l.length c) (by simp)
    have ho : Ow w1 b q.l c := by
      rcases hlc with ⟨e, _⟩ | ⟨b', c', e, ho⟩
      · cases e
      · injection e with e1 e2 e3
        injection e1 with e1
        injection e1 with e1
        subst e1 e3
        exact ho
    have hc0 := ho.cell k hk
    obtain ⟨y0, hy0⟩ : ∃ y0, y0 = q.l[k] := ⟨_, rfl⟩
    have hc : w1.cell? ⟨b, k, none⟩ = some (.int .i64 y0) := by rw [hy0]; exact hc0
    have hf := ho.free k
    obtain ⟨k1, k2⟩ := hv1.setL k hk x
    have hsub : ∀ y ∈ Sf p v (A ++ ({ q with l := q.l.set k x }, .slice (some ⟨b, 0, none⟩) q.l.length c) :: B), y ∈ Sf p v (A ++ (q, .slice (some ⟨b, 0, none⟩) q.l.length c) :: B) := fun y hy => by
      rcases mem_Sf.1 hy with hy | hy | hy
      · exact mem_Sf.2 (Or.inl hy)
      · exact mem_Sf.2 (Or.inr (Or.inl hy))
      · refine mem_Sf.2 (Or.inr (Or.inr ?_))
        rw [lbs_app, lbs_cons] at hy ⊢
        exact hy
    have hput := putL_is (A := A.map Prod.fst) (B := B.map Prod.fst) h4 hB hk x
    have HE := Lib.hid (show Fr TP (w1.setCell ⟨b, k, none⟩ (.int .i64 x)) p (Sf p v (A ++ ({ q with l := q.l.set k x }, .slice (some ⟨b, 0, none⟩) q.l.length c) :: B)) (setL (k : Int) x ((A ++ (q, .slice (some ⟨b, 0, none⟩) q.l.length c) :: B).map Prod.fst)) ∧ Turn (Sf p v (A ++ (q, .slice (some ⟨b, 0, none⟩) q.l.length c) :: B)) (Sf p v (A ++ ({ q with l := q.l.set k x }, .slice (some ⟨b, 0, none⟩) q.l.length c) :: B)) w (w1.setCell ⟨b, k, none⟩ (.int .i64 x)) from ⟨⟨v, _, k1, by rw [List.map_append, List.map_cons, hput]; simp, rfl, fun r hr => by
      rw [List.map_append, List.map_cons, hput] at hr
      rcases List.mem_append.1 hr with hr | hr
      · exact HV.out.2 r (by simp; exact Or.inl (by simpa using hr))
      · rcases List.mem_cons.1 hr with rfl | hr
        · simpa using HV.out.2 q (by simp)
        · exact HV.out.2 r (by simp; exact Or.inr (Or.inr (by simpa using hr)))⟩, (hm.up (by simp)).trans (k2.up fun y hy => by
      rw [List.mem_singleton.1 hy]
      exact mem_Sf.2 (Or.inr (Or.inr (mem_lbs.2 ⟨(q, .slice (some ⟨b, 0, none⟩) q.l.length c), by simp, rfl⟩)))), fun y hy => Or.inl (hsub y hy)⟩)
    clear hm h4 hB hc0 hy0 hk hput hsub k1 k2 ho hlc hv1 HR HV H1 HH
    go_wp2_with fail
    go_ret
    exact ⟨rfl, _, HE.out.1, HE.out.2⟩
end Go.Proofs.Ytacmidlhfcnkiaa
