/- Layer 14 (package frame): what ends a loop; Step. Condition: the block is frames (Fr). -/
import Derived.BigQuiet
import Derived.Test.YtifnkmddinoneaaGreatDoorCBAR
set_option maxRecDepth 100000
namespace Go.Proofs.YtifnkmddinoneaaGreatDoor.L14
open Go.RowKit
set_option linter.unusedVariables false

theorem ends_calls (w : World) (d s : Int) : Calls Tryz.prog 343 #[.int .i64 d, .int .i64 s] w fun e w' => e = .returned (.bool (endsF d s)) ∧ w = w' := by
  unfold endsF
  by_cases h1 : s < 0
  · rw [if_pos h1]
    go_enter Tryz.func343, Tryz.ntmps343
    go_wp2_with fail
    all_goals
      go_ret
      refine ⟨?_, rfl⟩
      simp
      try omega
  · rw [if_neg h1]
    go_enter Tryz.func343, Tryz.ntmps343
    go_wp2_with fail
    all_goals
      go_ret
      refine ⟨?_, rfl⟩
      simp
      try omega
def Stepped (tB : TypeId) (w : World) (p : Nat) (T : List Nat) (b : Bool) (r : Int) (L : List Fm) (e : Ending) (w' : World) : Prop := e = .returned (.tuple #[.bool b, .int .i64 r]) ∧ ∃ T', Fr tB w' p T' L ∧ Turn T T' w w'
theorem step_nil {w : World} {p : Nat} {T : List Nat} (h : Fr TP w p T []) (s : Int) : Calls Tryz.prog 301 #[Pt p, .int .i64 s] w (Stepped TP w p T false (-26) []) := by
  have HH := Lib.hid h
  obtain ⟨v, O, hv, hO, rfl, _⟩ := h
  obtain rfl : O = [] := by simpa using hO.symm
  obtain ⟨A0, cap0, rfl, _⟩ := hv.slice
  have c0 := hv.c0
  clear hv hO
  go_enter Tryz.func301, Tryz.ntmps301
  go_wp2_with fail
  exact bodyPost_ret (results_tmp2 Tryz.results301 _ _ _) rfl ⟨rfl, _, HH.out, Turn.refl _ _⟩
theorem Fr.top {tB : TypeId} {w : World} {p : Nat} {T : List Nat} {L : List Fm} {q : Fm} (h : Fr tB w p T (L ++ [q])) : ∃ g n m cap A s, n = m + 1 ∧ m = L.length ∧ n ≤ 128 ∧ n ≤ cap ∧ cap ≤ 9223372036854775807 ∧ Fv tB w p (.slice (some ⟨g, 0, none⟩) n cap) (A ++ [(q, s)]) ∧ L = A.map Prod.fst ∧ T = Sf p (.slice (some ⟨g, 0, none⟩) n cap) (A ++ [(q, s)]) ∧ g ≠ p ∧ A.length = m ∧
    w.cell? ⟨p, 0, none⟩ = some (.slice (some ⟨g, 0, none⟩) n cap) ∧ (∀ k, k < 6 → w.cell? ⟨g, m * 6 + k, none⟩ = (flatF (q, s))[k]?) ∧ (∀ j, w.frozen? ⟨g, j, none⟩ = false) := by
  obtain ⟨v, O, hv, hO, rfl, _⟩ := h
  obtain ⟨A, r, rfl⟩ := snoc_map (O := O) (by rintro rfl; simp at hO)
  have hr : L = A.map Prod.fst ∧ q = r.1 := by simpa using hO
  obtain ⟨rfl, rfl⟩ := hr
  obtain ⟨g, cap, rfl, hgp, hc, hfz, hle, hcap⟩ := hv.at_
  refine ⟨g, _, A.length, cap, A, r.2, by simp, by simp, ?_, hle, hcap, hv, rfl, rfl, hgp, rfl, hv.c0, hc, hfz⟩
  have := hv.few
  simpa using this
set_option maxHeartbeats 2000000 in
theorem step_wrong {w : World} {p : Nat} {T : List Nat} {L : List Fm} {q : Fm} (h : Fr TP w p T (L ++ [q])) (hq : q.k ≠ 3) (s : Int) : Calls Tryz.prog 301 #[Pt p, .int .i64 s] w (Stepped TP w p T false (-26) (L ++ [q])) := by
  have HH := Lib.hid h
  obtain ⟨g, n, m, cap, A, s', hn, hmL, hn2, hnc, hcap, hv, hLA, hT, hgp, hA, c0, hc, hfz⟩ := h.top
  have r0 : w.cell? ⟨g, m * 6, none⟩ = some (.int .i64 q.k) := hc 0 (by omega)
  have hw1 : IntKind.i64.wrap ((n : Int) - 1) = (m : Int) := by rw [IntKind.wrap_i64]; omega
  have hn1 : (n : Int) - 1 = (m : Int) := by omega
  have hm0 : (0 : Int) ≤ (m : Int) := by omega
  have hm1 : ¬ (m : Int) < 0 := by omega
  have hmn : (m : Int) < (n : Int) := by omega
  have hk1 : (q.k == 3) = false := by simpa using hq
  obtain ⟨k, hk⟩ : ∃ k, k = q.k := ⟨_, rfl⟩
  rw [← hk] at r0 hk1
  clear h hv hc hfz hn hA hq hk hmL hLA hT
  go_enter Tryz.func301, Tryz.ntmps301
  go_wp2_with fail
  exact bodyPost_ret (results_tmp2 Tryz.results301 _ _ _) rfl ⟨rfl, _, HH.out, Turn.refl _ _⟩
set_option maxHeartbeats 4000000 in
theorem step_over {w : World} {p : Nat} {T : List Nat} {L : List Fm} {q : Fm} (h : Fr TP w p T (L ++ [q])) (hq : q.k = 3) (s : Int) (he : endsF (wrap64 (q.x - q.y)) s = true) : Calls Tryz.prog 301 #[Pt p, .int .i64 s] w (Stepped TP w p T true 0 L) := by
  have HH := Lib.hid h
  obtain ⟨g, n, m, cap, A, s', hn, hmL, hn2, hnc, hcap, hv, hLA, hT, hgp, hA, c0, hc, hfz⟩ := h.top
  obtain ⟨k, a, b, x, y, l⟩ := q
  dsimp only at hq he
  subst hq
  have r0 : w.cell? ⟨g, m * 6, none⟩ = some (.int .i64 3) := hc 0 (by omega)
  have r3 : w.cell? ⟨g, m * 6 + 3, none⟩ = some (.int .i64 x) := hc 3 (by omega)
  have r4 : w.cell? ⟨g, m * 6 + 4, none⟩ = some (.int .i64 y) := hc 4 (by omega)
  have hw1 : IntKind.i64.wrap ((n : Int) - 1) = (m : Int) := by rw [IntKind.wrap_i64]; omega
  have hn1 : (n : Int) - 1 = (m : Int) := by omega
  have hm0 : (0 : Int) ≤ (m : Int) := by omega
  have hm1 : ¬ (m : Int) < 0 := by omega
  have hmn : (m : Int) < (n : Int) := by omega
  have hcut : cutL (m : Int) (L ++ [⟨3, a, b, x, y, l⟩]) = L := by unfold cutL; rw [Int.toNat_natCast, hmL]; simp
  have H1 := Lib.hid (fun k : Nat => (ends_calls (w.drewN k) (wrap64 (x - y)) s).mono fun e w' ⟨h1, h2⟩ => (⟨h1, k, h2.symm⟩ : e = Ending.returned (.bool (endsF (wrap64 (x - y)) s)) ∧ ∃ m, w' = w.drewN m))
  rw [he] at H1
  have H2 := Lib.hid (fun k : Nat => cut_calls (h.far ((Mod.refl [] w).drewN k)) (m : Int))
  rw [hcut] at H2
  clear h hv hc hfz hn hA he hT hcut hmL hLA
  go_enter Tryz.func301, Tryz.ntmps301
  go_upto_region 7 with fail
  go_quiet ((go_at_call 343; exact H1.out _))
  go_wp2_with fail
  refine (H2.out _).mono ?_
  rintro e w3 ⟨⟨r0, rfl⟩, T', hF, hT⟩
  have HE := Lib.hid (And.intro hF (hT.ahead ((Mod.refl [] w).drewN _)))
  clear hF hT
  go_wp2_with fail
  exact bodyPost_ret (results_tmp2 Tryz.results301 _ _ _) rfl ⟨rfl, T', HE.out.1, HE.out.2⟩
set_option maxHeartbeats 4000000 in
theorem step_on {w : World} {p : Nat} {T : List Nat} {L : List Fm} {q : Fm} (h : Fr TP w p T (L ++ [q])) (hq : q.k = 3) (s : Int) (he : endsF (wrap64 (q.x - q.y)) s = false) : Calls Tryz.prog 301 #[Pt p, .int .i64 s] w (Stepped TP w p T false 0 (L ++ [{ q with x := wrap64 (q.x + s) }])) := by
  have hsm := h.small
  obtain ⟨g, n, m, cap, A, s', hn, hmL, hn2, hnc, hcap, hv, hLA, hT, hgp, hA, c0, hc, hfz⟩ := h.top
  obtain ⟨k, a, b, x, y, l⟩ := q
  dsimp only at hq he
  subst hq
  have r0 : w.cell? ⟨g, m * 6, none⟩ = some (.int .i64 3) := hc 0 (by omega)
  have r3 : w.cell? ⟨g, m * 6 + 3, none⟩ = some (.int .i64 x) := hc 3 (by omega)
  have r4 : w.cell? ⟨g, m * 6 + 4, none⟩ = some (.int .i64 y) := hc 4 (by omega)
  have f3 := hfz (m * 6 + 3)
  have hw1 : IntKind.i64.wrap ((n : Int) - 1) = (m : Int) := by rw [IntKind.wrap_i64]; omega
  have hn1 : (n : Int) - 1 = (m : Int) := by omega
  have hm0 : (0 : Int) ≤ (m : Int) := by omega
  have hm1 : ¬ (m : Int) < 0 := by omega
  have hmn : (m : Int) < (n : Int) := by omega
  have H1 := Lib.hid (fun k : Nat => (ends_calls (w.drewN k) (wrap64 (x - y)) s).mono fun e w' ⟨h1, h2⟩ => (⟨h1, k, h2.symm⟩ : e = Ending.returned (.bool (endsF (wrap64 (x - y)) s)) ∧ ∃ m, w' = w.drewN m))
  rw [he] at H1
  have H2 := Lib.hid (fun k : Nat => (by
    have md := (Mod.refl [] w).drewN k
    obtain ⟨k1, k2⟩ := (hv.far md).setX (wrap64 (x + s))
    rw [hA] at k1 k2
    refine ⟨_, ⟨_, _, k1, ?_, rfl, ?_⟩, (md.up (by simp)).trans (k2.up (T := T) (fun u hu => ?_)), fun u hu => Or.inl ?_⟩
    · rw [hLA]; simp
    · intro r hr
      rcases List.mem_append.1 hr with hr | hr
      · exact hsm r (List.mem_append.2 (Or.inl hr))
      · rw [List.mem_singleton.1 hr]
        exact hsm ⟨3, a, b, x, y, l⟩ (by simp)
    · rw [hT, List.mem_singleton.1 hu]
      exact mem_Sf.2 (Or.inr (Or.inl rfl))
    · rw [hT]
      rcases mem_Sf.1 hu with hu | hu | hu
      · exact mem_Sf.2 (Or.inl hu)
      · exact mem_Sf.2 (Or.inr (Or.inl hu))
      · refine mem_Sf.2 (Or.inr (Or.inr ?_))
        rw [lbs_app, lbs_cons] at hu ⊢
        exact hu : ∃ T', Fr TP ((w.drewN k).setCell ⟨g, m * 6 + 3, none⟩ (.int .i64 (wrap64 (x + s)))) p T' (L ++ [⟨3, a, b, wrap64 (x + s), y, l⟩]) ∧ Turn T T' w ((w.drewN k).setCell ⟨g, m * 6 + 3, none⟩ (.int .i64 (wrap64 (x + s))))))
  clear h hv hc hfz hn hA he hT hmL hLA hsm
  go_enter Tryz.func301, Tryz.ntmps301
  go_upto_region 7 with fail
  go_quiet ((go_at_call 343; exact H1.out _))
  go_wp2_with fail
  exact bodyPost_ret (results_tmp2 Tryz.results301 _ _ _) rfl ⟨rfl, H2.out _⟩
end Go.Proofs.YtifnkmddinoneaaGreatDoor.L14
