/- Layer 11 (package flow): whether the open parts that a part requires are there, and whether there is room. Condition: the block is a builder (Bv) of at most 1000 instructions and parts. -/
import Derived.Test.YtnclfopdgilgaaaFL
namespace Go.Proofs.Ytnclfopdgilgaaa
open Go.RowKit
set_option linter.unusedVariables false

/-- v is a row of these kinds. -/
def KdAt (w : World) (v : Value) (ks : List Nat) : Prop := ∃ A cap, v = .slice A ks.length cap ∧ ∀ (i x : Nat), ks[i]? = some x → ∃ b, A = some ⟨b, 0, none⟩ ∧ w.cell? ⟨b, i, none⟩ = some (.int .i64 (x : Int))
theorem KdAt.nil (w : World) : KdAt w (.slice none 0 0) [] := ⟨none, 0, rfl, fun i x h => by simp at h⟩
theorem KdAt.far {w w' : World} {v : Value} {ks : List Nat} (h : KdAt w v ks) (m : Mod [] w w') : KdAt w' v ks := by
  obtain ⟨A, cap, e, h⟩ := h
  refine ⟨A, cap, e, fun i x hx => ?_⟩
  obtain ⟨b, e2, hc⟩ := h i x hx
  exact ⟨b, e2, m.cell (by simp) hc⟩
theorem ends_iff {ks : List Nat} {P : List Pk} (h : ks.length ≤ P.length) : endsB ks P = true ↔ ∀ i x, ks[i]? = some x → (P.map Pk.k)[P.length - ks.length + i]? = some x := by
  unfold endsB
  rw [decide_eq_true_eq, List.suffix_iff_eq_drop, List.length_map]
  constructor
  · intro e i x hx
    rw [e, List.getElem?_drop] at hx
    exact hx
  · intro g
    apply List.ext_getElem?
    intro i
    rw [List.getElem?_drop]
    by_cases hi : i < ks.length
    · rw [g i ks[i] (List.getElem?_eq_getElem hi), List.getElem?_eq_getElem hi]
    · rw [List.getElem?_eq_none (by omega), List.getElem?_eq_none (by simp; omega)]
theorem ends_short {ks : List Nat} {P : List Pk} (h : P.length < ks.length) : endsB ks P = false := by
  unfold endsB
  rw [decide_eq_false_iff_not]
  intro hs
  have := hs.length_le
  rw [List.length_map] at this
  omega
set_option maxHeartbeats 2000000 in
set_option maxRecDepth 100000 in
theorem ends_calls {w : World} {p : Nat} {vc vo : Value} {O : List (Pk × Value)} {L : List Xi} (h : Bv TB TP w p vc vo O L) (hd : O.length ≤ 1000) {v : Value} {ks : List Nat} (hk : KdAt w v ks) (hk2 : ks.length ≤ 1000) :
    Calls Try.prog 54 #[Pt p, v] w fun e w' => e = .returned (.bool (endsB ks (O.map Prod.fst))) ∧ w = w' := by
  obtain ⟨Ak, ck, rfl, hk⟩ := hk
  obtain ⟨A, cap, hvo, _⟩ := h.open_slice
  have k1 := h.c1
  rw [hvo] at k1
  obtain ⟨n, hn⟩ : ∃ n, n = O.length := ⟨_, rfl⟩
  obtain ⟨m, hm⟩ : ∃ m, m = ks.length := ⟨_, rfl⟩
  rw [← hn] at k1 hd
  rw [← hm] at hk2 ⊢
  have hnI : (n : Int) ≤ 1000 := by omega
  have hmI : (m : Int) ≤ 1000 := by omega
  have H0 := Lib.hid (And.intro h (And.intro hk (And.intro hn (And.intro hm hvo))))
  by_cases hs : n < m
  · have hr : RowKit.Hid (endsB ks (O.map Prod.fst) = false) := Lib.hid (ends_short (by rw [List.length_map]; omega))
    have hsI : (n : Int) - (m : Int) < 0 := by omega
    clear h hk hn hm hvo hs hd hk2
    go_enter Try.func54, Try.ntmps54
    go_wp2_with fail
    go_ret
    exact ⟨by rw [hr.out]; rfl, rfl⟩
  · obtain ⟨d, hdd⟩ : ∃ d, n = d + m := ⟨n - m, by omega⟩
    have hdI : (n : Int) - (m : Int) = (d : Int) := by omega
    have hnm : (n : Int) = (d : Int) + (m : Int) := by omega
    have hd0 : ¬ ((d : Int) < 0) := by omega
    have hdB : (d : Int) ≤ 1000 := by omega
    have hi0 := Lib.hid (ends_iff (ks := ks) (P := O.map Prod.fst) (by rw [List.length_map]; omega))
    have HD := Lib.hid (And.intro hdd hnm)
    clear h hk hn hm hvo hs hd hk2 hdd hnm
    go_enter Try.func54, Try.ntmps54
    go_wp2_with fail
    go_loopg [20] m (fun g z wr => ∃ i : Nat, z = .int .i64 (i : Int) ∧ i + g = m ∧ w = wr ∧ RowKit.Hid (∀ j x, j < i → ks[j]? = some x → ((O.map Prod.fst).map Pk.k)[d + j]? = some x))
    case atStart => exact ⟨0, rfl, by omega, rfl, Lib.hid fun j x hj => by omega⟩
    case round =>
      obtain ⟨i, rfl, hig, rfl, hi⟩ := hrel
      by_cases hlt : i < m
      · have hltI : (i : Int) < (m : Int) := by omega
        obtain ⟨x, hx⟩ : ∃ x, ks[i]? = some x := ⟨_, List.getElem?_eq_getElem (by have := H0.out.2.2.2.1; omega)⟩
        obtain ⟨b, rfl, hcx⟩ := H0.out.2.1 i x hx
        obtain ⟨A1, q, B1, e, _, hA1, _⟩ := at_top (O := O) (j := m - 1 - i) (by have := H0.out.2.2.1; have := HD.out.1; omega)
        have hAd : A1.length = d + i := by have := H0.out.2.2.1; have := HD.out.1; omega
        have hB := H0.out.1
        rw [e] at hB
        obtain ⟨g, cap', e2, _, c0, _, _, _⟩ := hB.part
        have hvo := H0.out.2.2.2.2
        rw [e2, ← e] at hvo
        simp only [Value.slice.injEq] at hvo
        obtain ⟨rfl, _, rfl⟩ := hvo
        rw [hAd] at c0
        have hq : ((O.map Prod.fst).map Pk.k)[d + i]? = some q.1.k := by
          rw [e, ← hAd]
          simp
        have hdi : (d : Int) + (i : Int) = ((d + i : Nat) : Int) := by omega
        have hdiN : ((d + i : Nat) : Int) < (n : Int) := by have := HD.out.1; omega
        obtain ⟨di, hdi2⟩ : ∃ di, di = d + i := ⟨_, rfl⟩
        rw [← hdi2] at c0 hq hdi hdiN
        have HX := Lib.hid (And.intro hx (And.intro hq (And.intro hdi2 hig)))
        clear hx hq hdi2 e e2 hB hA1 hAd hig
        by_cases hqx : q.1.k = x
        · have q1 : ((q.1.k : Int) != (x : Int)) = false := by rw [hqx]; simp
          have HQ := Lib.hid hqx
          clear hqx
          go_wp2_with fail
          go_roundg (gk - 1)
          case measure => have := HX.out.2.2.2; omega
          case rel =>
            refine ⟨i + 1, by go_num, by have := HX.out.2.2.2; omega, rfl, Lib.hid fun j y hj hy => ?_⟩
            by_cases hji : j = i
            · subst hji
              rw [HX.out.1] at hy
              injection hy with hy
              rw [← HX.out.2.2.1, HX.out.2.1, HQ.out, hy]
            · exact hi.out j y (by omega) hy
        · have q1 : ((q.1.k : Int) != (x : Int)) = true := by rw [bne_iff_ne]; exact fun e => hqx (Int.ofNat.inj e)
          have hr : RowKit.Hid (endsB ks (O.map Prod.fst) = false) := Lib.hid (by
            rw [Bool.eq_false_iff]
            intro ht
            have h5 := hi0.out.1 ht i x HX.out.1
            rw [List.length_map, show O.length - ks.length + i = d + i by have := H0.out.2.2.1; have := H0.out.2.2.2.1; have := HD.out.1; omega, ← HX.out.2.2.1, HX.out.2.1] at h5
            injection h5 with h5
            exact hqx h5)
          clear hqx
          go_wp2_with fail
          go_ret
          exact ⟨by rw [hr.out]; rfl, rfl⟩
      · have hltI : ¬ (i : Int) < (m : Int) := by omega
        obtain rfl : i = m := by omega
        have hr : RowKit.Hid (endsB ks (O.map Prod.fst) = true) := Lib.hid (hi0.out.2 fun j x hx => by
          have hjl := (List.getElem?_eq_some_iff.1 hx).1
          have := hi.out j x (by have := H0.out.2.2.2.1; omega) hx
          rwa [List.length_map, show O.length - ks.length + j = d + j by have := H0.out.2.2.1; have := H0.out.2.2.2.1; have := HD.out.1; omega])
        clear hi hig hlt
        go_wp2_with fail
        go_ret
        exact ⟨by rw [hr.out]; rfl, rfl⟩
end Go.Proofs.Ytnclfopdgilgaaa
