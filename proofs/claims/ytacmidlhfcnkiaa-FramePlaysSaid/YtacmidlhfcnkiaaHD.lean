/- Layer 14: the document's Index, locals, Local. Condition: the block is frames (Fr). -/
import Derived.Test.YtacmidlhfcnkiaaHC
namespace Go.Proofs.Ytacmidlhfcnkiaa
open Go.RowKit
set_option linter.unusedVariables false

theorem Fv.cellsAt {tB : TypeId} {w : World} {p : Nat} {v : Value} {O : List (Fm × Value)} (h : Fv tB w p v O) : ∃ A cap g, v = .slice A O.length cap ∧ (0 < O.length → A = some ⟨g, 0, none⟩) ∧ ∀ i (hi : i < O.length), ∀ k, k < 6 → w.cell? ⟨g, i * 6 + k, none⟩ = (flatF O[i])[k]? := by
  obtain ⟨A, cap, rfl, _⟩ := h.slice
  obtain ⟨g, hg⟩ : ∃ g, 0 < O.length → A = some ⟨g, 0, none⟩ := by
    rcases h.row.2 with ⟨e, h0⟩ | ⟨g, cp, cur, e, _⟩
    · exact ⟨0, fun hp => by omega⟩
    · injection e with e1; exact ⟨g, fun _ => e1⟩
  refine ⟨A, cap, g, rfl, hg, fun i hi k hk => ?_⟩
  have hO : O = O.take i ++ O[i] :: O.drop (i + 1) := by rw [← List.drop_eq_getElem_cons hi, List.take_append_drop]
  have hr := h.row
  have hA := hg (by omega)
  subst hA
  rw [hr.cellAt (i * 6 + k) (by omega)]
  have := flatG_get (O.take i) O[i] (O.drop (i + 1)) k hk
  rw [← hO, List.length_take, Nat.min_eq_left (by omega)] at this
  exact this
set_option maxHeartbeats 4000000 in
theorem rindex_calls {w : World} {p : Nat} {v : Value} {O : List (Fm × Value)} (h : Fv TR w p v O) (t : Int) :
    Calls Try.prog 30 #[Pt p, .int .i64 t] w fun e w' => e = .returned (.tuple #[.int .i64 ((indexL t (O.map Prod.fst)).getD 0), .int .i64 (orE (-26) (indexL t (O.map Prod.fst)))]) ∧ w = w' := by
  have hfew := h.few
  obtain ⟨A, cap, g, rfl, hA, hc⟩ := h.cellsAt
  have c0 := h.c0
  obtain ⟨n, hn⟩ : ∃ n, n = O.length := ⟨_, rfl⟩
  have HC := Lib.hid (fun i (hi : i < n) => (⟨(hc i (by omega) 0 (by omega)).trans (by rw [kindAt_is (by omega)]; rfl), (hc i (by omega) 3 (by omega)).trans (by rw [xAt_is (by omega)]; rfl)⟩ : w.cell? ⟨g, i * 6, none⟩ = some (.int .i64 (kindAt O i)) ∧ w.cell? ⟨g, i * 6 + 3, none⟩ = some (.int .i64 (xAt O i))))
  rw [← hn] at c0 hfew hA
  have HN := Lib.hid hn
  have hnI : (n : Int) ≤ 128 := by omega
  clear h hc hn
  by_cases ht : 0 ≤ t ∧ t < (n : Int)
  · obtain ⟨m, rfl⟩ : ∃ m : Nat, t = (m : Int) := ⟨t.toNat, by omega⟩
    have hmI : (m : Int) < (n : Int) := ht.2
    have hmI2 : ¬ (n : Int) ≤ (m : Int) := by omega
    have hA' := hA (by omega)
    subst hA'
    obtain ⟨a, ha⟩ : ∃ a, a = n - 1 - m := ⟨_, rfl⟩
    have haI : (n : Int) - 1 - (m : Int) = (a : Int) := by omega
    have HA := Lib.hid (And.intro ha (show m < n by omega))
    obtain ⟨r, hr⟩ : ∃ r, r = indexL (m : Int) (O.map Prod.fst) := ⟨_, rfl⟩
    have HR := Lib.hid hr
    rw [← hr]
    clear ha hr ht hA
    go_enter Try.func30, Try.ntmps30
    go_wp2_with fail
    go_loopw [7] (fun z wr => ∃ i : Nat, z = .int .i64 (i : Int) ∧ a ≤ i ∧ i ≤ n ∧ wr = w ∧ RowKit.Hid (∀ j, a ≤ j → j < i → kindAt O j = 3)) (fun z _ => n - (intOf z).toNat)
    case atStart => exact ⟨a, rfl, by omega, by have := HA.out; omega, rfl, Lib.hid fun j h1 h2 => by omega⟩
    case round =>
      obtain ⟨i, rfl, hai, hin, rfl, hall⟩ := hrel
      by_cases hlt : i < n
      · have hiI : (i : Int) < (n : Int) := by omega
        have hi0 : (0 : Int) ≤ (i : Int) := by omega
        obtain ⟨k0, _⟩ := HC.out i hlt
        obtain ⟨kd, hkd⟩ : ∃ kd, kd = kindAt O i := ⟨_, rfl⟩
        rw [← hkd] at k0
        by_cases h3 : kd = 3
        · have q1 : (kd != 3) = false := by simp [h3]
          have HK := Lib.hid (hkd.symm.trans h3)
          clear hkd h3
          go_wp2_with fail
          go_roundw
          case rel => exact ⟨i + 1, by go_num, by omega, by omega, trivial, Lib.hid fun j h1 h2 => by
            by_cases e : j = i
            · subst e; exact HK.out
            · exact hall.out j h1 (by omega)⟩
          case measure => simp [intOf]; omega
        · have q1 : (kd != 3) = true := by simpa using h3
          have hres : r = none := by
            rw [HR.out]
            refine index_not (m := n - 1 - i) (by have := HN.out; omega) ?_ (by have := HA.out; omega)
            rw [show O.length - 1 - (n - 1 - i) = i by have := HN.out; omega, ← hkd]
            exact h3
          subst hres
          clear hkd h3
          go_wp2_with fail
          exact bodyPost_ret (results_tmp2 Try.results30 _ _ _) rfl ⟨rfl, by first | rfl | trivial⟩
      · have hiI : ¬ (i : Int) < (n : Int) := by omega
        have hin' : i = n := by omega
        have haO : a < n := by have := HA.out; omega
        obtain ⟨_, k3⟩ := HC.out a haO
        have ha0 : (0 : Int) ≤ (a : Int) := by omega
        have haI2 : (a : Int) < (n : Int) := by omega
        obtain ⟨xd, hxd⟩ : ∃ xd, xd = xAt O a := ⟨_, rfl⟩
        rw [← hxd] at k3
        have hres : r = some xd := by
          rw [HR.out, index_found (by have := HN.out; have := HA.out; omega) (fun j hj => hall.out _ (by have := HN.out; have := HA.out; omega) (by have := HN.out; have := HA.out; omega)), hxd]
          congr 2
          have := HN.out
          have := HA.out
          omega
        subst hres
        clear hxd hin' haO
        go_wp2_with fail
        exact bodyPost_ret (results_tmp2 Try.results30 _ _ _) rfl ⟨rfl, by first | rfl | trivial⟩
  · have hres : indexL t (O.map Prod.fst) = none := index_no (by rw [← HN.out]; exact ht)
    rw [hres]
    by_cases h0 : t < 0
    · clear hres ht hA HC
      go_enter Try.func30, Try.ntmps30
      go_wp2_with fail
      exact bodyPost_ret (results_tmp2 Try.results30 _ _ _) rfl ⟨rfl, by first | rfl | trivial⟩
    · have h1 : (n : Int) ≤ t := by omega
      clear hres ht hA HC
      go_enter Try.func30, Try.ntmps30
      go_wp2_with fail
      exact bodyPost_ret (results_tmp2 Try.results30 _ _ _) rfl ⟨rfl, by first | rfl | trivial⟩
/-- Where the document finds locals. -/
def locI (L : List Fm) : Int := match topP hides L with
  | some i => if (L.getD i zF).k = 4 then (i : Int) else -1
  | none => -1
theorem locI_none {L : List Fm} (h : ∀ q ∈ L, hides q = false) : locI L = -1 := by unfold locI; rw [topP_none h]
theorem locI_is {A : List Fm} {q : Fm} {B : List Fm} (h : hides q = true) (hB : ∀ b ∈ B, hides b = false) : locI (A ++ q :: B) = if q.k = 4 then (A.length : Int) else -1 := by
  unfold locI
  rw [topP_is h hB]
  simp
theorem hides_at {O : List (Fm × Value)} {i : Nat} (hi : i < O.length) : hides O[i].1 = decide (kindAt O i = 4 ∨ kindAt O i = 1) := by rw [kindAt_is hi]; rfl
theorem locI_at {O : List (Fm × Value)} {i : Nat} (hi : i < O.length) (hk : kindAt O i = 4 ∨ kindAt O i = 1) (h : ∀ j, i < j → j < O.length → ¬ (kindAt O j = 4 ∨ kindAt O j = 1)) : locI (O.map Prod.fst) = if kindAt O i = 4 then (i : Int) else -1 := by
  rw [split_at hi, locI_is (by rw [hides_at hi]; exact decide_eq_true hk), kindAt_is hi]
  · rw [List.length_map, List.length_take, Nat.min_eq_left (by omega)]
  · intro b hb
    obtain ⟨q, hq, rfl⟩ := List.mem_map.1 hb
    obtain ⟨j, hj, rfl⟩ := List.getElem_of_mem hq
    have hj' : i + 1 + j < O.length := by simp at hj; omega
    rw [List.getElem_drop, hides_at hj']
    exact decide_eq_false (h _ (by omega) hj')
theorem locI_no {O : List (Fm × Value)} (h : ∀ j, j < O.length → ¬ (kindAt O j = 4 ∨ kindAt O j = 1)) : locI (O.map Prod.fst) = -1 := by
  refine locI_none fun b hb => ?_
  obtain ⟨q, hq, rfl⟩ := List.mem_map.1 hb
  obtain ⟨j, hj, rfl⟩ := List.getElem_of_mem hq
  rw [hides_at hj]
  exact decide_eq_false (h j hj)
set_option maxHeartbeats 4000000 in
theorem rlocals_calls {w : World} {p : Nat} {v : Value} {O : List (Fm × Value)} (h : Fv TR w p v O) : Calls Try.prog 41 #[Pt p] w fun e w' => e = .returned (.int .i64 (locI (O.map Prod.fst))) ∧ w = w' := by
  have hfew := h.few
  obtain ⟨A, cap, g, rfl, hA, hc⟩ := h.cellsAt
  have c0 := h.c0
  obtain ⟨n, hn⟩ : ∃ n, n = O.length := ⟨_, rfl⟩
  have HC := Lib.hid (fun i (hi : i < n) => ((hc i (by omega) 0 (by omega)).trans (by rw [kindAt_is (by omega)]; rfl) : w.cell? ⟨g, i * 6, none⟩ = some (.int .i64 (kindAt O i))))
  rw [← hn] at c0 hfew hA
  have HN := Lib.hid hn
  have hnI : (n : Int) ≤ 128 := by omega
  have HA := Lib.hid hA
  obtain ⟨r, hr⟩ : ∃ r, r = locI (O.map Prod.fst) := ⟨_, rfl⟩
  have HR := Lib.hid hr
  rw [← hr]
  clear h hc hn hA hr
  go_enter Try.func41, Try.ntmps41
  go_wp2_with fail
  go_loopw [3] (fun z wr => ∃ m : Nat, z = .int .i64 ((n : Int) - 1 - (m : Int)) ∧ m ≤ n ∧ wr = w ∧ RowKit.Hid (∀ j, n - m ≤ j → j < n → ¬ (kindAt O j = 4 ∨ kindAt O j = 1))) (fun z _ => (intOf z + 1).toNat)
  case atStart => exact ⟨0, by simp, by omega, rfl, Lib.hid fun j h1 h2 => by omega⟩
  case round =>
    obtain ⟨m, rfl, hm, rfl, hall⟩ := hrel
    by_cases hlt : m < n
    · obtain ⟨i, hi⟩ : ∃ i, i = n - 1 - m := ⟨_, rfl⟩
      have hiI : (n : Int) - 1 - (m : Int) = (i : Int) := by omega
      rw [hiI]
      have hin : (i : Int) < (n : Int) := by omega
      have hi0 : (0 : Int) ≤ (i : Int) := by omega
      have hA' := HA.out (by omega)
      subst hA'
      have k0 : wr.cell? ⟨g, i * 6, none⟩ = some (.int .i64 (kindAt O i)) := HC.out i (by omega)
      obtain ⟨kd, hkd⟩ : ∃ kd, kd = kindAt O i := ⟨_, rfl⟩
      rw [← hkd] at k0
      have HI := Lib.hid (And.intro hi (And.intro hiI hkd))
      have hrest : RowKit.Hid (∀ j, i < j → j < O.length → ¬ (kindAt O j = 4 ∨ kindAt O j = 1)) := Lib.hid fun j h1 h2 => hall.out j (by have := HI.out.1; omega) (by have := HN.out; omega)
      clear hi hiI hkd
      by_cases h4 : kd = 4
      · have q1 : (kd == 4) = true := by simp [h4]
        have hres : r = (i : Int) := by
          rw [HR.out, locI_at (by have := HN.out; omega) (by rw [← HI.out.2.2]; exact Or.inl h4) hrest.out, ← HI.out.2.2, if_pos h4]
        subst hres
        clear h4
        go_wp2_with fail
        go_ret
        exact ⟨rfl, by first | rfl | trivial⟩
      · have q1 : (kd == 4) = false := by simpa using h4
        by_cases h1 : kd = 1
        · have q2 : (kd == 1) = true := by simp [h1]
          have hres : r = -1 := by
            rw [HR.out, locI_at (by have := HN.out; omega) (by rw [← HI.out.2.2]; exact Or.inr h1) hrest.out, ← HI.out.2.2, if_neg h4]
          subst hres
          clear h4 h1
          go_wp2_with fail
          go_ret
          exact ⟨rfl, by first | rfl | trivial⟩
        · have q2 : (kd == 1) = false := by simpa using h1
          have HX := Lib.hid (And.intro h4 h1)
          clear h4 h1
          go_wp2_with fail
          go_roundw
          case rel => exact ⟨m + 1, by have := HI.out.2.1; congr 1; omega, by omega, trivial, Lib.hid fun j h1 h2 => by
            by_cases e : j = i
            · subst e
              rw [← HI.out.2.2]
              exact fun hh => hh.elim HX.out.1 HX.out.2
            · exact hall.out j (by have := HI.out.1; omega) h2⟩
          case measure => have := HI.out.2.1; simp [intOf]
    · have hm' : m = n := by omega
      have hz : (n : Int) - 1 - (m : Int) = -1 := by omega
      rw [hz]
      have hres : r = -1 := by
        rw [HR.out]
        exact locI_no fun j hj => hall.out j (by omega) (by have := HN.out; omega)
      subst hres
      clear hm' hz
      go_wp2_with fail
      go_ret
      exact ⟨rfl, by first | rfl | trivial⟩
end Go.Proofs.Ytacmidlhfcnkiaa
