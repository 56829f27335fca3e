/- Layer 14: the document's Local, Catch. Condition: the block is frames (Fr). -/
import Derived.Test.YtacmidlhfcnkiaaHD
namespace Go.Proofs.Ytacmidlhfcnkiaa
open Go.RowKit
set_option linter.unusedVariables false

/-- Where local finds its place, in words: nowhere, or a frame of locals. -/
theorem place_cases (O : List (Fm × Value)) (i : Int) : (placeL i (O.map Prod.fst) = none ∧ (locI (O.map Prod.fst) = -1 ∨ ∃ (A B : List (Fm × Value)) (q : Fm × Value), O = A ++ q :: B ∧ locI (O.map Prod.fst) = (A.length : Int) ∧ ¬ (0 ≤ i ∧ i < (q.1.l.length : Int)))) ∨
    ∃ (A B : List (Fm × Value)) (q : Fm × Value) (k : Nat), O = A ++ q :: B ∧ q.1.k = 4 ∧ (∀ x ∈ B.map Prod.fst, hides x = false) ∧ i = (k : Int) ∧ k < q.1.l.length ∧ locI (O.map Prod.fst) = (A.length : Int) := by
  rcases top_cases hides (O.map Prod.fst) with hn | ⟨A, q, B, hO, hq, hB⟩
  · exact Or.inl ⟨place_none hn i, Or.inl (locI_none hn)⟩
  · obtain ⟨A', C, rfl, rfl, hC⟩ := List.map_eq_append_iff.1 hO
    obtain ⟨⟨q', s⟩, B', rfl, rfl, rfl⟩ := List.map_eq_cons_iff.1 hC
    dsimp only at hq hO
    have hpl := place_is (A := A'.map Prod.fst) hq hB i
    have hlo := locI_is (A := A'.map Prod.fst) hq hB
    rw [List.map_append, List.map_cons, hpl, hlo, List.length_map]
    by_cases h4 : q'.k = 4
    · rw [if_pos h4]
      by_cases hi : 0 ≤ i ∧ i < (q'.l.length : Int)
      · exact Or.inr ⟨A', B', (q', s), i.toNat, rfl, h4, hB, by omega, by dsimp only; omega, rfl⟩
      · exact Or.inl ⟨by rw [if_neg fun hh => hi hh.2], Or.inr ⟨A', B', (q', s), rfl, rfl, hi⟩⟩
    · exact Or.inl ⟨by rw [if_neg fun hh => h4 hh.1], Or.inl (by rw [if_neg h4])⟩
set_option maxHeartbeats 4000000 in
theorem rget_calls {w : World} {p : Nat} {T : List Nat} {L : List Fm} (h : Fr TR w p T L) (i : Int) : Calls Try.prog 32 #[Pt p, .int .i64 i] w fun e w' => e = .returned (.tuple #[.int .i64 ((localL i L).getD 0), .int .i64 (orE (-6) (localL i L))]) ∧ w = w' := by
  obtain ⟨v, O, hv, rfl, rfl, _⟩ := h
  have H1 := Lib.hid (rlocals_calls hv)
  rcases place_cases O i with ⟨hp, hlo | ⟨A, B, q, hO, hlo, hi⟩⟩ | ⟨A, B, q, k, hO, h4, hB, rfl, hk, hlo⟩
  · rw [(local_ofNone hp).1]
    rw [hlo] at H1
    clear hv hp hlo
    go_enter Try.func32, Try.ntmps32
    go_wp2_with fail
    refine (H1.out).mono ?_
    rintro e w1 ⟨rfl, rfl⟩
    go_wp2_with fail
    exact bodyPost_ret (results_tmp2 Try.results32 _ _ _) rfl ⟨rfl, by first | rfl | trivial⟩
  · rw [(local_ofNone hp).1]
    rw [hlo] at H1
    rw [hO] at hv
    obtain ⟨g, cap, rfl, _, hc, _, hle, _⟩ := hv.at_
    have c0 := hv.c0
    have r5 : w.cell? ⟨g, A.length * 6 + 5, none⟩ = some q.2 := hc 5 (by omega)
    have hfew := hv.few
    obtain ⟨A1, c1, hs, _, hl1, hl2, _⟩ := (hv.loc q (by simp)).ls
    rw [hs] at r5
    obtain ⟨n, hn⟩ : ∃ n, n = (A ++ q :: B).length := ⟨_, rfl⟩
    have hmn : A.length < n := by rw [hn]; simp
    rw [← hn] at c0 hfew
    obtain ⟨m, hm⟩ : ∃ m, m = A.length := ⟨_, rfl⟩
    obtain ⟨ln, hln⟩ : ∃ ln, ln = q.1.l.length := ⟨_, rfl⟩
    rw [← hm] at H1 r5 hmn
    rw [← hln] at r5 hi hl1
    have hmI : (m : Int) < (n : Int) := by omega
    have hm0 : ¬ (m : Int) < 0 := by omega
    have hm00 : (0 : Int) ≤ (m : Int) := by omega
    clear hv hp hlo hO hc hle hs hn hm hln
    by_cases h0 : i < 0
    · clear hi
      go_enter Try.func32, Try.ntmps32
      go_wp2_with fail
      refine (H1.out).mono ?_
      rintro e w1 ⟨rfl, rfl⟩
      go_wp2_with fail
      exact bodyPost_ret (results_tmp2 Try.results32 _ _ _) rfl ⟨rfl, by first | rfl | trivial⟩
    · have h1 : (ln : Int) ≤ i := by omega
      clear hi
      go_enter Try.func32, Try.ntmps32
      go_wp2_with fail
      refine (H1.out).mono ?_
      rintro e w1 ⟨rfl, rfl⟩
      go_wp2_with fail
      exact bodyPost_ret (results_tmp2 Try.results32 _ _ _) rfl ⟨rfl, by first | rfl | trivial⟩
  · rw [hlo] at H1
    have hr : localL (k : Int) (O.map Prod.fst) = some (q.1.l[k]) := by rw [hO, List.map_append, List.map_cons]; exact getL_is h4 hB hk
    rw [hr]
    rw [hO] at hv
    obtain ⟨g, cap, rfl, _, hc, _, hle, _⟩ := hv.at_
    have c0 := hv.c0
    have r5 : w.cell? ⟨g, A.length * 6 + 5, none⟩ = some q.2 := hc 5 (by omega)
    have hfew := hv.few
    obtain ⟨b, c1, hs, ho⟩ : ∃ b c1, q.2 = .slice (some ⟨b, 0, none⟩) q.1.l.length c1 ∧ Ow w b q.1.l c1 := by
      rcases hv.loc q (by simp) with ⟨_, e⟩ | ⟨b, c, e, ho⟩
      · rw [e] at hk; simp at hk
      · exact ⟨b, c, e, ho⟩
    rw [hs] at r5
    have hcell := ho.cell k hk
    obtain ⟨y, hy⟩ : ∃ y, y = q.1.l[k] := ⟨_, rfl⟩
    rw [← hy] at hcell ⊢
    obtain ⟨n, hn⟩ : ∃ n, n = (A ++ q :: B).length := ⟨_, rfl⟩
    have hmn : A.length < n := by rw [hn]; simp
    rw [← hn] at c0 hfew
    obtain ⟨m, hm⟩ : ∃ m, m = A.length := ⟨_, rfl⟩
    obtain ⟨ln, hln⟩ : ∃ ln, ln = q.1.l.length := ⟨_, rfl⟩
    rw [← hm] at H1 r5 hmn
    rw [← hln] at r5
    have hkI : (k : Int) < (ln : Int) := by omega
    have hkI2 : ¬ (ln : Int) ≤ (k : Int) := by omega
    have hmI : (m : Int) < (n : Int) := by omega
    have hm0 : ¬ (m : Int) < 0 := by omega
    have hm00 : (0 : Int) ≤ (m : Int) := by omega
    clear hv hlo hO hc hle hs hn hm hln ho hy hr hB h4 hk
    go_enter Try.func32, Try.ntmps32
    go_wp2_with fail
    refine (H1.out).mono ?_
    rintro e w1 ⟨rfl, rfl⟩
    go_wp2_with fail
    exact bodyPost_ret (results_tmp2 Try.results32 _ _ _) rfl ⟨rfl, by first | rfl | trivial⟩
end Go.Proofs.Ytacmidlhfcnkiaa
