/- Layer 14 (package frame): local, Local, SetLocal. Condition: the block is frames (Fr). Layer 14 (package frame): Catch; Pop and Top in one word each. Condition: the block is frames (Fr). -/
import Derived.Test.YtifnkmddinoneaaGreatDoorCBAT
set_option maxRecDepth 100000
namespace Go.Proofs.YtifnkmddinoneaaGreatDoor.L14
open Go.RowKit
set_option linter.unusedVariables false

theorem kinds_hides : kindsP [4, 1] = hides := by
  funext q
  simp [kindsP, hides]
theorem kinds_catch : kindsP [5] = isCatch := by
  funext q
  simp [kindsP, isCatch]
theorem topI_is {ks : List Int} {A : List Fm} {q : Fm} {B : List Fm} (h : kindsP ks q = true) (hB : ∀ b ∈ B, kindsP ks b = false) : topI ks (A ++ q :: B) = (A.length : Int) := by
  unfold topI
  rw [topP_is h hB]
theorem topI_no {ks : List Int} {L : List Fm} (h : ∀ q ∈ L, kindsP ks q = false) : topI ks L = -1 := by
  unfold topI
  rw [topP_none h]
theorem row41 (w : World) : Sl (w.alloc (.cells #[.int .i64 4, .int .i64 1] 3)) (some ⟨w.heap.size, 0, none⟩) [4, 1] := fun j hj => by
  have hb := (MapKept.heap_alloc w (.cells #[.int .i64 4, .int .i64 1] 3)).1
  have : j = 0 ∨ j = 1 := by simp at hj; omega
  rcases this with rfl | rfl
  · exact ⟨_, 0, rfl, cell_eq hb 0⟩
  · exact ⟨_, 0, rfl, cell_eq hb 1⟩
theorem row5 (w : World) : Sl (w.alloc (.cells #[.int .i64 5] 3)) (some ⟨w.heap.size, 0, none⟩) [5] := fun j hj => by
  have hb := (MapKept.heap_alloc w (.cells #[.int .i64 5] 3)).1
  have : j = 0 := by simp at hj; omega
  subst this
  exact ⟨_, 0, rfl, cell_eq hb 0⟩
theorem top41 {w : World} {p : Nat} {v : Value} {O : List (Fm × Value)} (h : Fv TP w p v O) : Calls Tryz.prog 303 #[Pt p, .slice (some ⟨w.heap.size, 0, none⟩) 2 2] (w.alloc (.cells #[.int .i64 4, .int .i64 1] 3)) fun e w' => e = .returned (.int .i64 (topI [4, 1] (O.map Prod.fst))) ∧ Mod [] w w' :=
  (topmost_calls (kc := 2) (h.far (al_mod w _)) (row41 w) rfl (by decide)).mono fun e w' ⟨h1, h2⟩ => ⟨h1, (al_mod w _).trans h2⟩
theorem top5 {w : World} {p : Nat} {v : Value} {O : List (Fm × Value)} (h : Fv TP w p v O) : Calls Tryz.prog 303 #[Pt p, .slice (some ⟨w.heap.size, 0, none⟩) 1 1] (w.alloc (.cells #[.int .i64 5] 3)) fun e w' => e = .returned (.int .i64 (topI [5] (O.map Prod.fst))) ∧ Mod [] w w' :=
  (topmost_calls (kc := 1) (h.far (al_mod w _)) (row5 w) rfl (by decide)).mono fun e w' ⟨h1, h2⟩ => ⟨h1, (al_mod w _).trans h2⟩
set_option maxHeartbeats 2000000 in
theorem local_none1 {w : World} {p : Nat} {v : Value} {O : List (Fm × Value)} (h : Fv TP w p v O) (hn : ∀ q ∈ O.map Prod.fst, hides q = false) (i : Int) : Calls Tryz.prog 302 #[Pt p, .int .i64 i] w fun e w' => e = .returned (.tuple #[.pointer none, .int .i64 (-6)]) ∧ Mod [] w w' := by
  have H1 := Lib.hid (top41 h)
  rw [topI_no (by rw [kinds_hides]; exact hn)] at H1
  clear h hn
  go_enter Tryz.func302, Tryz.ntmps302
  go_wp2_with fail
  refine (H1.out).mono ?_
  rintro e w1 ⟨rfl, hm⟩
  have HM := Lib.hid hm
  clear hm
  go_wp2_with fail
  exact bodyPost_ret (results_tmp2 Tryz.results302 _ _ _) rfl ⟨rfl, HM.out⟩
set_option maxHeartbeats 2000000 in
theorem local_other {w : World} {p : Nat} {v : Value} {A B : List (Fm × Value)} {q : Fm} {s : Value} (h : Fv TP w p v (A ++ (q, s) :: B)) (hq : hides q = true) (hB : ∀ b ∈ B.map Prod.fst, hides b = false) (h4 : q.k ≠ 4) (i : Int) : Calls Tryz.prog 302 #[Pt p, .int .i64 i] w fun e w' => e = .returned (.tuple #[.pointer none, .int .i64 (-6)]) ∧ Mod [] w w' := by
  have H1 := Lib.hid (top41 h)
  rw [List.map_append, List.map_cons, topI_is (by rw [kinds_hides]; exact hq) (by rw [kinds_hides]; exact hB), List.length_map] at H1
  obtain ⟨g, cap, rfl, _, hc, _, hle, hcap⟩ := h.at_
  have hfew := h.few
  have c0 := h.c0
  have r0 : w.cell? ⟨g, A.length * 6, none⟩ = some (.int .i64 q.k) := hc 0 (by omega)
  obtain ⟨n, hn⟩ : ∃ n, n = (A ++ (q, s) :: B).length := ⟨_, rfl⟩
  have hmn : A.length < n := by rw [hn]; simp
  rw [← hn] at c0 hfew
  obtain ⟨m, hm⟩ : ∃ m, m = A.length := ⟨_, rfl⟩
  rw [← hm] at H1 r0 hmn
  have hmnI : (m : Int) < (n : Int) := by omega
  have hm0 : ¬ (m : Int) < 0 := by omega
  have hm00 : (0 : Int) ≤ (m : Int) := by omega
  obtain ⟨k, hk⟩ : ∃ k, k = q.k := ⟨_, rfl⟩
  rw [← hk] at r0 h4
  have hk4 : (k != 4) = true := by simpa using h4
  have hK := Lib.hid (fun W (m : Mod [] w W) => (⟨m.cell (by simp) c0, m.cell (by simp) r0⟩ : _ ∧ _))
  clear h hq hB hc hn hm hk c0 r0 h4 hle
  go_enter Tryz.func302, Tryz.ntmps302
  go_wp2_with fail
  refine (H1.out).mono ?_
  rintro e w1 ⟨rfl, hm⟩
  obtain ⟨c0, r0⟩ := hK.out w1 hm
  have HM := Lib.hid hm
  clear hm hK
  go_wp2_with fail
  exact bodyPost_ret (results_tmp2 Tryz.results302 _ _ _) rfl ⟨rfl, HM.out⟩
set_option maxHeartbeats 4000000 in
theorem local_at {w : World} {p : Nat} {v : Value} {A B : List (Fm × Value)} {q : Fm} {s : Value} (h : Fv TP w p v (A ++ (q, s) :: B)) (hq : q.k = 4) (hB : ∀ b ∈ B.map Prod.fst, hides b = false) (i : Int) : Calls Tryz.prog 302 #[Pt p, .int .i64 i] w fun e w' => ((¬ (0 ≤ i ∧ i < (q.l.length : Int)) ∧ e = .returned (.tuple #[.pointer none, .int .i64 (-6)])) ∨ (∃ k b c : Nat, i = (k : Int) ∧ k < q.l.length ∧ s = .slice (some ⟨b, 0, none⟩) q.l.length c ∧ e = .returned (.tuple #[.pointer (some ⟨b, k, none⟩), .int .i64 0]))) ∧ Mod [] w w' := by
  have H1 := Lib.hid (top41 h)
  rw [List.map_append, List.map_cons, topI_is (by rw [kinds_hides]; simp [hides, hq]) (by rw [kinds_hides]; exact hB), List.length_map] at H1
  obtain ⟨g, cap, rfl, _, hc, _, hle, hcap⟩ := h.at_
  have hfew := h.few
  have c0 := h.c0
  have r0 : w.cell? ⟨g, A.length * 6, none⟩ = some (.int .i64 4) := (hc 0 (by omega)).trans (by rw [← hq]; rfl)
  have r5 : w.cell? ⟨g, A.length * 6 + 5, none⟩ = some s := hc 5 (by omega)
  have hlc := h.loc (q, s) (by simp)
  obtain ⟨n, hn⟩ : ∃ n, n = (A ++ (q, s) :: B).length := ⟨_, rfl⟩
  have hmn : A.length < n := by rw [hn]; simp
  rw [← hn] at c0 hfew
  obtain ⟨m, hm⟩ : ∃ m, m = A.length := ⟨_, rfl⟩
  rw [← hm] at H1 r0 r5 hmn
  have hmnI : (m : Int) < (n : Int) := by omega
  have hm0 : ¬ (m : Int) < 0 := by omega
  have hm00 : (0 : Int) ≤ (m : Int) := by omega
  obtain ⟨A1, c1, hs, _, hl1, hl2, _⟩ := hlc.ls
  dsimp only at hs hl1
  obtain ⟨ln, hln⟩ : ∃ ln, ln = q.l.length := ⟨_, rfl⟩
  have hA1 : 0 < ln → ∃ b, A1 = some ⟨b, 0, none⟩ := fun hp => by
    rcases hlc with ⟨e, h0⟩ | ⟨b, c, e, _⟩
    · simp only at h0; rw [hln, h0] at hp; exact absurd hp (by simp)
    · dsimp only at e
      rw [hs] at e
      injection e with e
      exact ⟨b, e⟩
  rw [← hln] at hs hl1 ⊢
  rw [hs] at r5
  have hK := Lib.hid (fun W (m : Mod [] w W) => (⟨m.cell (by simp) c0, m.cell (by simp) r0, m.cell (by simp) r5⟩ : _ ∧ _ ∧ _))
  have HS := Lib.hid (And.intro hs hA1)
  clear h hB hc hn hm c0 r0 r5 hle hlc hs hA1 hln hq
  by_cases h0 : i < 0
  · go_enter Tryz.func302, Tryz.ntmps302
    go_wp2_with fail
    refine (H1.out).mono ?_
    rintro e w1 ⟨rfl, hm⟩
    obtain ⟨c0, r0, r5⟩ := hK.out w1 hm
    have HM := Lib.hid hm
    clear hm hK
    go_wp2_with fail
    exact bodyPost_ret (results_tmp2 Tryz.results302 _ _ _) rfl ⟨Or.inl ⟨by omega, rfl⟩, HM.out⟩
  · obtain ⟨k, rfl⟩ : ∃ k : Nat, i = (k : Int) := ⟨i.toNat, by omega⟩
    by_cases h1 : k < ln
    · obtain ⟨b, hb⟩ := HS.out.2 (by omega)
      have HB := Lib.hid hb
      rw [hb] at hK
      have hkI : (k : Int) < (ln : Int) := by omega
      have hkI' : ¬ (ln : Int) ≤ (k : Int) := by omega
      have HH := Lib.hid h1
      clear hb h1
      go_enter Tryz.func302, Tryz.ntmps302
      go_wp2_with fail
      refine (H1.out).mono ?_
      rintro e w1 ⟨rfl, hm⟩
      obtain ⟨c0, r0, r5⟩ := hK.out w1 hm
      have HM := Lib.hid hm
      clear hm hK
      go_wp2_with fail
      exact bodyPost_ret (results_tmp2 Tryz.results302 _ _ _) rfl ⟨Or.inr ⟨k, b, c1, rfl, HH.out, by rw [HS.out.1, HB.out], rfl⟩, HM.out⟩
    · have hkI : (ln : Int) ≤ (k : Int) := by omega
      clear h1
      go_enter Tryz.func302, Tryz.ntmps302
      go_wp2_with fail
      refine (H1.out).mono ?_
      rintro e w1 ⟨rfl, hm⟩
      obtain ⟨c0, r0, r5⟩ := hK.out w1 hm
      have HM := Lib.hid hm
      clear hm hK
      go_wp2_with fail
      exact bodyPost_ret (results_tmp2 Tryz.results302 _ _ _) rfl ⟨Or.inl ⟨by omega, rfl⟩, HM.out⟩
theorem local_any {w : World} {p : Nat} {v : Value} {O : List (Fm × Value)} (h : Fv TP w p v O) (i : Int) : Calls Tryz.prog 302 #[Pt p, .int .i64 i] w fun e w' => ((placeL i (O.map Prod.fst) = none ∧ e = .returned (.tuple #[.pointer none, .int .i64 (-6)])) ∨ (∃ (A B : List (Fm × Value)) (q : Fm) (k b c : Nat), O = A ++ (q, .slice (some ⟨b, 0, none⟩) q.l.length c) :: B ∧ q.k = 4 ∧ (∀ x ∈ B.map Prod.fst, hides x = false) ∧ i = (k : Int) ∧ k < q.l.length ∧ e = .returned (.tuple #[.pointer (some ⟨b, k, none⟩), .int .i64 0]))) ∧ Mod [] w w' := by
  rcases top_cases hides (O.map Prod.fst) with hn | ⟨A, q, B, hO, hq, hB⟩
  · exact (local_none1 h hn i).mono fun e w' ⟨h1, h2⟩ => ⟨Or.inl ⟨place_none hn i, h1⟩, h2⟩
  · obtain ⟨A', C, rfl, rfl, hC⟩ := List.map_eq_append_iff.1 hO
    obtain ⟨⟨q', s⟩, B', rfl, rfl, rfl⟩ := List.map_eq_cons_iff.1 hC
    dsimp only at hq hO
    have hpl := place_is (A := A'.map Prod.fst) hq hB i
    rw [List.map_append, List.map_cons, hpl]
    by_cases h4 : q'.k = 4
    · refine (local_at h h4 hB i).mono fun e w' ⟨h1, h2⟩ => ⟨?_, h2⟩
      rcases h1 with ⟨k1, k2⟩ | ⟨k, b, c, k1, k2, k3, k4⟩
      · exact Or.inl ⟨by rw [if_neg fun hh => k1 ⟨hh.2.1, hh.2.2⟩], k2⟩
      · exact Or.inr ⟨A', B', q', k, b, c, by rw [k3], h4, hB, k1, k2, k4⟩
    · exact (local_other h hq hB h4 i).mono fun e w' ⟨h1, h2⟩ => ⟨Or.inl ⟨by rw [if_neg fun hh => h4 hh.1], h1⟩, h2⟩
theorem getL_is {A B : List Fm} {q : Fm} {k : Nat} (h4 : q.k = 4) (hB : ∀ x ∈ B, hides x = false) (hk : k < q.l.length) : localL (k : Int) (A ++ q :: B) = some (q.l[k]) := by
  rw [local_is (by simp [hides, h4]) hB, if_pos ⟨h4, by omega, by omega⟩]
  simp [hk]
theorem putL_is {A B : List Fm} {q : Fm} {k : Nat} (h4 : q.k = 4) (hB : ∀ x ∈ B, hides x = false) (hk : k < q.l.length) (x : Int) : setL (k : Int) x (A ++ q :: B) = A ++ { q with l := q.l.set k x } :: B := by
  rw [set_is (by simp [hides, h4]) hB, if_pos ⟨h4, by omega, by omega⟩, Int.toNat_natCast]
theorem local_ofNone {i : Int} {L : List Fm} (h : placeL i L = none) : localL i L = none ∧ ∀ x, setL i x L = L := by
  unfold localL setL
  rw [h]
  exact ⟨rfl, fun _ => rfl⟩
set_option maxHeartbeats 2000000 in
theorem get_calls {w : World} {p : Nat} {T : List Nat} {L : List Fm} (h : Fr TP w p T L) (i : Int) : Calls Tryz.prog 246 #[Pt p, .int .i64 i] w fun e w' => e = .returned (.tuple #[.int .i64 ((localL i L).getD 0), .int .i64 (orE (-6) (localL i L))]) ∧ Mod [] w w' := by
  obtain ⟨v, O, hv, rfl, rfl, _⟩ := h
  have H1 := Lib.hid (local_any hv i)
  have HV := Lib.hid hv
  clear hv
  obtain ⟨r, hr⟩ : ∃ r, r = localL i (O.map Prod.fst) := ⟨_, rfl⟩
  have HR := Lib.hid hr
  rw [← hr]
  clear hr
  go_enter Tryz.func246, Tryz.ntmps246
  go_wp2_with fail
  refine (H1.out).mono ?_
  rintro e w1 ⟨⟨hp, rfl⟩ | ⟨A, B, q, k, b, c, rfl, h4, hB, rfl, hk, rfl⟩, hm⟩
  · obtain rfl : r = none := HR.out.trans (local_ofNone hp).1
    have HM := Lib.hid hm
    clear hm hp
    go_wp2_with fail
    exact bodyPost_ret (results_tmp2 Tryz.results246 _ _ _) rfl ⟨rfl, HM.out⟩
  · have hr : r = some (q.l[k]) := HR.out.trans (by rw [List.map_append, List.map_cons]; exact getL_is h4 hB hk)
    have hc : w1.cell? ⟨b, k, none⟩ = some (.int .i64 (q.l[k])) := hm.cell (by simp) (by
      rcases HV.out.loc (q, .slice (some ⟨b, 0, none⟩) q.l.length c) (by simp) with ⟨e, _⟩ | ⟨b', c', e, ho⟩
      · cases e
      · injection e with e1
        injection e1 with e1
        injection e1 with e1
        subst e1
        exact ho.cell k hk)
    obtain ⟨y, hy⟩ : ∃ y, y = q.l[k] := ⟨_, rfl⟩
    rw [← hy] at hr hc
    subst hr
    have HM := Lib.hid hm
    clear hm h4 hB hk hy HR HV H1
    go_wp2_with fail
    exact bodyPost_ret (results_tmp2 Tryz.results246 _ _ _) rfl ⟨rfl, HM.out⟩
set_option maxHeartbeats 2000000 in
theorem set_calls {w : World} {p : Nat} {T : List Nat} {L : List Fm} (h : Fr TP w p T L) (i x : Int) : Calls Tryz.prog 248 #[Pt p, .int .i64 i, .int .i64 x] w (Gives TP w p T (.int .i64 (orE (-6) (localL i L))) (setL i x L)) := by
  have HH := Lib.hid h
  obtain ⟨v, O, hv, rfl, rfl, hsm⟩ := h
  have H1 := Lib.hid (local_any hv i)
  have HV := Lib.hid (And.intro hv hsm)
  clear hv hsm
  unfold Gives
  obtain ⟨r, hr⟩ : ∃ r, r = orE (-6) (localL i (O.map Prod.fst)) := ⟨_, rfl⟩
  have HR := Lib.hid hr
  rw [← hr]
  clear hr
  go_enter Tryz.func248, Tryz.ntmps248
  go_wp2_with fail
  refine (H1.out).mono ?_
  rintro e w1 ⟨⟨hp, rfl⟩ | ⟨A, B, q, k, b, c, rfl, h4, hB, rfl, hk, rfl⟩, hm⟩
  · obtain rfl : r = -6 := HR.out.trans (by rw [(local_ofNone hp).1]; rfl)
    have HM := Lib.hid (And.intro hm hp)
    clear hm hp
    go_wp2_with fail
    go_ret
    refine ⟨rfl, _, ?_, (Turn.refl _ _).far HM.out.1⟩
    rw [(local_ofNone HM.out.2).2]
    exact HH.out.far HM.out.1
  · obtain rfl : r = 0 := HR.out.trans (by rw [List.map_append, List.map_cons, getL_is h4 hB hk]; rfl)
    have hv1 := HV.out.1.far hm
    have hlc := hv1.loc (q, .slice (some ⟨b, 0, none⟩) q.l.length c) (by simp)
    have ho : Ow w1 b q.l c := by
      rcases hlc with ⟨e, _⟩ | ⟨b', c', e, ho⟩
      · cases e
      · injection e with e1 e2 e3
        injection e1 with e1
        injection e1 with e1
        subst e1 e3
        exact ho
    have hc0 := ho.cell k hk
    obtain ⟨y0, hy0⟩ : ∃ y0, y0 = q.l[k] := ⟨_, rfl⟩
    have hc : w1.cell? ⟨b, k, none⟩ = some (.int .i64 y0) := by rw [hy0]; exact hc0
    have hf := ho.free k
    obtain ⟨k1, k2⟩ := hv1.setL k hk x
    have hsub : ∀ y ∈ Sf p v (A ++ ({ q with l := q.l.set k x }, .slice (some ⟨b, 0, none⟩) q.l.length c) :: B), y ∈ Sf p v (A ++ (q, .slice (some ⟨b, 0, none⟩) q.l.length c) :: B) := fun y hy => by
      rcases mem_Sf.1 hy with hy | hy | hy
      · exact mem_Sf.2 (Or.inl hy)
      · exact mem_Sf.2 (Or.inr (Or.inl hy))
      · refine mem_Sf.2 (Or.inr (Or.inr ?_))
        rw [lbs_app, lbs_cons] at hy ⊢
        exact hy
    have hput := putL_is (A := A.map Prod.fst) (B := B.map Prod.fst) h4 hB hk x
    have HE := Lib.hid (show Fr TP (w1.setCell ⟨b, k, none⟩ (.int .i64 x)) p (Sf p v (A ++ ({ q with l := q.l.set k x }, .slice (some ⟨b, 0, none⟩) q.l.length c) :: B)) (setL (k : Int) x ((A ++ (q, .slice (some ⟨b, 0, none⟩) q.l.length c) :: B).map Prod.fst)) ∧ Turn (Sf p v (A ++ (q, .slice (some ⟨b, 0, none⟩) q.l.length c) :: B)) (Sf p v (A ++ ({ q with l := q.l.set k x }, .slice (some ⟨b, 0, none⟩) q.l.length c) :: B)) w (w1.setCell ⟨b, k, none⟩ (.int .i64 x)) from ⟨⟨v, _, k1, by rw [List.map_append, List.map_cons, hput]; simp, rfl, fun r hr => by
      rw [List.map_append, List.map_cons, hput] at hr
      rcases List.mem_append.1 hr with hr | hr
      · exact HV.out.2 r (by simp; exact Or.inl (by simpa using hr))
      · rcases List.mem_cons.1 hr with rfl | hr
        · simpa using HV.out.2 q (by simp)
        · exact HV.out.2 r (by simp; exact Or.inr (Or.inr (by simpa using hr)))⟩, (hm.up (by simp)).trans (k2.up fun y hy => by
      rw [List.mem_singleton.1 hy]
      exact mem_Sf.2 (Or.inr (Or.inr (mem_lbs.2 ⟨(q, .slice (some ⟨b, 0, none⟩) q.l.length c), by simp, rfl⟩)))), fun y hy => Or.inl (hsub y hy)⟩)
    clear hm h4 hB hc0 hy0 hk hput hsub k1 k2 ho hlc hv1 HR HV H1 HH
    go_wp2_with fail
    go_ret
    exact ⟨rfl, _, HE.out.1, HE.out.2⟩
end Go.Proofs.YtifnkmddinoneaaGreatDoor.L14
namespace Go.Proofs.YtifnkmddinoneaaGreatDoor.L14
open Go.RowKit
set_option linter.unusedVariables false

theorem top5at {w : World} {p : Nat} {T : List Nat} {L : List Fm} (h : Fr TP w p T L) : Calls Tryz.prog 303 #[Pt p, .slice (some ⟨w.heap.size + 1, 0, none⟩) 1 1] ((w.alloc (.cells zC TF)).alloc (.cells #[.int .i64 5] 3)) fun e w' => e = .returned (.int .i64 (topI [5] L)) ∧ Mod [] (w.alloc (.cells zC TF)) w' := by
  obtain ⟨v, O, hv, rfl, rfl, _⟩ := h.far (al_mod w (.cells zC TF))
  have := top5 hv
  rw [size_allocI] at this
  exact this
set_option maxHeartbeats 2000000 in
theorem catch_no {w : World} {p : Nat} {T : List Nat} {L : List Fm} (h : Fr TP w p T L) (hn : ∀ q ∈ L, isCatch q = false) : Calls Tryz.prog 252 #[Pt p] w fun e w' => e = .returned (.tuple #[.agg zC, .bool false]) ∧ Mod [] w w' := by
  have H1 := Lib.hid (top5at h)
  rw [topI_no (by rw [kinds_catch]; exact hn)] at H1
  have HM := Lib.hid (al_mod w (.cells zC TF))
  clear h hn
  go_enter Tryz.func252, Tryz.ntmps252
  go_wp2_with fail
  refine (H1.out).mono ?_
  rintro e w1 ⟨rfl, hm⟩
  have e0 := box_of hm
  obtain ⟨d0, d1, d2, d3, d4, d5, g0, g1, g2, g3, g4, g5⟩ := six_at e0
  obtain ⟨z1, z2⟩ := box_zero e0
  have HE := Lib.hid (And.intro z1 ((HM.out.trans hm).far1 z2 (Nat.le_refl _)))
  clear e0 hm z1 z2
  go_wp2_with fail
  exact bodyPost_ret (res_fr2 Tryz.results252 rfl HE.out.1) rfl ⟨rfl, HE.out.2⟩
set_option maxHeartbeats 4000000 in
theorem catch_yes {w : World} {p : Nat} {T : List Nat} {A B : List Fm} {q : Fm} (h : Fr TP w p T (A ++ q :: B)) (hq : q.k = 5) (hB : ∀ b ∈ B, isCatch b = false) : Calls Tryz.prog 252 #[Pt p] w (Gone TP w p T q (.bool true) A) := by
  have H1 := Lib.hid (top5at h)
  rw [topI_is (by rw [kinds_catch]; simp [isCatch, hq]) (by rw [kinds_catch]; exact hB)] at H1
  have mA := al_mod w (.cells zC TF)
  have hfew : (A.length : Int) ≤ 128 := by have := h.few; simp at this; omega
  have hcut : cutL ((A.length : Int) + 1) (A ++ q :: B) = A ++ [q] := by
    unfold cutL
    rw [show ((A.length : Int) + 1).toNat = A.length + 1 by omega, show A ++ q :: B = (A ++ [q]) ++ B by simp, List.take_left' (by simp)]
  have H2 := Lib.hid (fun W (m : Mod [] (w.alloc (.cells zC TF)) W) => cut_calls (h.far (mA.trans m)) ((A.length : Int) + 1))
  rw [hcut] at H2
  have HM := Lib.hid (And.intro h mA)
  obtain ⟨m, hm⟩ : ∃ m, m = A.length := ⟨_, rfl⟩
  rw [← hm] at H1 H2 hfew
  have hm0 : ¬ (m : Int) < 0 := by omega
  obtain ⟨k, a, b, x, y, l⟩ := q
  dsimp only at hq
  subst hq
  clear h hB hcut hm mA
  go_enter Tryz.func252, Tryz.ntmps252
  go_wp2_with fail
  refine (H1.out).mono ?_
  rintro e w1 ⟨rfl, hm⟩
  have e1 := box_of hm
  have H2' := Lib.hid (H2.out w1 hm)
  have K1 := Lib.hid (And.intro e1 hm)
  clear e1 hm H1 H2
  go_wp2_with fail
  refine (H2'.out).mono ?_
  rintro e w3 ⟨⟨r0, rfl⟩, T3, hF, hT⟩
  have H3 := Lib.hid (pop_right hF)
  have K2 := Lib.hid (And.intro hF hT)
  unfold Gone frV at H3
  dsimp only at H3
  clear hF hT H2'
  go_wp2_with fail
  refine (H3.out).mono ?_
  rintro e w4 ⟨s', rfl, hlc, T4, hF4, hT4, hs4⟩
  obtain ⟨A', c', rfl, _⟩ := hlc.ls
  obtain ⟨hF, hT⟩ := K2.out
  obtain ⟨e1, hm⟩ := K1.out
  have hB0 : w.heap.size ∉ T := HM.out.1.above (Nat.le_refl _)
  have hsz1 : w.heap.size < w1.heap.size := (Array.getElem?_eq_some_iff.1 e1).1
  have hB3 : w.heap.size ∉ T3 := fun hx => (hT.2 _ hx).elim hB0 fun hl => by omega
  have e3 := (hT.1.block _ hsz1 hB0).trans e1
  have hsz3 : w.heap.size < w3.heap.size := (Array.getElem?_eq_some_iff.1 e3).1
  have e4 := (hT4.1.block _ hsz3 hB3).trans e3
  have hsz4 : w.heap.size < w4.heap.size := (Array.getElem?_eq_some_iff.1 e4).1
  have m5 := al_mod w4 (.cells (cellsF ⟨5, a, b, x, y, l⟩ (.slice A' l.length c')) TF)
  have e5 := (m5.block _ hsz4 (by simp)).trans e4
  have b5 := (MapKept.heap_alloc w4 (.cells (cellsF ⟨5, a, b, x, y, l⟩ (.slice A' l.length c')) TF)).1
  obtain ⟨c0, c1, c2, c3, c4, c5, f0, f1, f2, f3, f4, f5⟩ := six_at b5
  obtain ⟨d0, d1, d2, d3, d4, d5, g0, g1, g2, g3, g4, g5⟩ := six_at e5
  obtain ⟨z1, z2⟩ := six_set (v0 := .int .i64 5) (v1 := .int .i64 a) (v2 := .int .i64 b) (v3 := .int .i64 x) (v4 := .int .i64 y) (v5 := .slice A' l.length c') e5
  have hB4 : w.heap.size ∉ T4 := fun hx => (hT4.2 _ hx).elim hB3 fun hl => by omega
  have hg : ∀ g, (Value.slice A' l.length c').ownBlock = some g → (g ∈ T ∨ w.heap.size + 1 ≤ g) ∧ g ∉ T4 := fun g hg => by
    have h1 := hs4 g hg
    refine ⟨?_, h1.2⟩
    rcases h1.1 with h2 | h2
    · rcases hT.2 g h2 with h3 | h3
      · exact Or.inl h3
      · exact Or.inr (by omega)
    · exact Or.inr (by omega)
  have hlc5 := (hlc.far m5).mod z2 (fun g hg' hx => by
    have hx' : g = w.heap.size := by simpa using hx
    subst hx'
    rcases (hg _ hg').1 with h | h
    · exact hB0 h
    · omega)
  have hu : Turn T T4 w (sixSet (w4.alloc (.cells (cellsF ⟨5, a, b, x, y, l⟩ (.slice A' l.length c')) TF)) w.heap.size (.int .i64 5) (.int .i64 a) (.int .i64 b) (.int .i64 x) (.int .i64 y) (.slice A' l.length c')) := by
    have h1 := ((hT.trans hT4).far m5).ahead (HM.out.2.trans hm)
    exact ⟨h1.1.then z2 fun u hu => Or.inr (by rw [List.mem_singleton.1 hu]; exact Nat.le_refl _), h1.2⟩
  have HE := Lib.hid (And.intro z1 (And.intro hlc5 (And.intro ((hF4.far m5).mod z2 (fun u hu => by simp; rintro rfl; exact hB4 hu)) (And.intro hu hg))))
  have hne : w.heap.size ≠ w4.heap.size := by omega
  dsimp only at c0 c1 c2 c3 c4 c5 f0 f1 f2 f3 f4 f5 d0 d1 d2 d3 d4 d5 g0 g1 g2 g3 g4 g5 HE
  clear hF hT e1 hm hB0 hsz1 hB3 e3 hsz3 e4 hsz4 m5 e5 b5 z1 z2 hB4 hg hlc5 hu hlc hF4 hT4 hs4 K1 K2 H3
  go_wp2_with fail
  obtain ⟨z1, hlc5, hF5, hu, hg⟩ := HE.out
  exact bodyPost_ret (res_fr2 Tryz.results252 rfl z1) rfl ⟨_, rfl, hlc5, T4, hF5, hu, fun g hg' => ⟨(hg g hg').1.imp id fun h => by omega, (hg g hg').2⟩⟩
theorem pop_calls {w : World} {p : Nat} {T : List Nat} {L : List Fm} (h : Fr TP w p T L) (k : Int) : Calls Tryz.prog 116 #[Pt p, .int .i64 k] w (Gone TP w p T ((topK k L).getD zF) (.int .i64 (errK k (-6) L)) (popL k L)) := by
  rcases snoc_cases L with rfl | ⟨A, q, rfl⟩
  · exact pop_nil h k
  · by_cases hk : q.k = k
    · subst hk
      have := pop_right h
      rw [topK_snoc, if_pos rfl, (topK_some rfl).1, (topK_some rfl).2]
      exact this
    · have := pop_wrong h k hk
      have e : topK k (A ++ [q]) = none := by rw [topK_snoc, if_neg hk]
      rw [e, (topK_no e).1, (topK_no e).2]
      exact this
theorem top_calls {w : World} {p : Nat} {T : List Nat} {L : List Fm} (h : Fr TP w p T L) : Calls Tryz.prog 21 #[Pt p] w (Tops w (topV L) (.bool L.getLast?.isSome)) := by
  rcases snoc_cases L with rfl | ⟨A, q, rfl⟩
  · exact (top_nil h).mono fun e w' ⟨h1, h2⟩ => ⟨.slice none 0 0, h1, ⟨Lc.nil _, fun g hg => by cases hg⟩, h2⟩
  · have := top_snoc h
    rw [topV_snoc]
    simpa using this
theorem stepEnd_snoc (s : Int) (A : List Fm) (q : Fm) : stepEnd s (A ++ [q]) = (decide (q.k = 3) && endsF (wrap64 (q.x - q.y)) s) ∧ stepL s (A ++ [q]) = if q.k = 3 then (if endsF (wrap64 (q.x - q.y)) s then A else A ++ [{ q with x := wrap64 (q.x + s) }]) else A ++ [q] := by
  unfold stepEnd stepL
  rw [topK_snoc]
  by_cases h : q.k = 3
  · rw [if_pos h, if_pos h]
    simp [h]
  · rw [if_neg h, if_neg h]
    simp [h]
theorem step_calls {w : World} {p : Nat} {T : List Nat} {L : List Fm} (h : Fr TP w p T L) (s : Int) : Calls Tryz.prog 301 #[Pt p, .int .i64 s] w (Stepped TP w p T (stepEnd s L) (errK 3 (-26) L) (stepL s L)) := by
  rcases snoc_cases L with rfl | ⟨A, q, rfl⟩
  · exact step_nil h s
  · rw [(stepEnd_snoc s A q).1, (stepEnd_snoc s A q).2]
    unfold errK
    rw [topK_snoc]
    by_cases hk : q.k = 3
    · rw [if_pos hk, if_pos hk]
      cases he : endsF (wrap64 (q.x - q.y)) s with
      | true =>
        have := step_over h hk s he
        simpa [hk] using this
      | false =>
        have := step_on h hk s he
        simpa [hk] using this
    · rw [if_neg hk, if_neg hk]
      have := step_wrong h hk s
      simpa [hk] using this
end Go.Proofs.YtifnkmddinoneaaGreatDoor.L14
