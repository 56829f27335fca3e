/- Layer 14: the document's Catch. Condition: the block is frames (Fr). -/
import Derived.Test.YtacmidlhfcnkiaaHE
namespace Go.Proofs.Ytacmidlhfcnkiaa
open Go.RowKit
set_option linter.unusedVariables false

theorem catch_at {O : List (Fm × Value)} {i : Nat} (hi : i < O.length) : isCatch O[i].1 = decide (kindAt O i = 5) := by rw [kindAt_is hi]; rfl
theorem catch_last {O : List (Fm × Value)} {i : Nat} (hi : i < O.length) (hk : kindAt O i = 5) (h : ∀ j, i < j → j < O.length → kindAt O j ≠ 5) : caught (O.map Prod.fst) = some O[i].1 ∧ catchL (O.map Prod.fst) = (O.map Prod.fst).take i := by
  have e := split_at hi
  have h2 := catch_is (A := (O.take i).map Prod.fst) (q := O[i].1) (B := (O.drop (i + 1)).map Prod.fst) (by rw [catch_at hi]; exact decide_eq_true hk) (fun b hb => by
    obtain ⟨q, hq, rfl⟩ := List.mem_map.1 hb
    obtain ⟨j, hj, rfl⟩ := List.getElem_of_mem hq
    have hj' : i + 1 + j < O.length := by simp at hj; omega
    rw [List.getElem_drop, catch_at hj']
    exact decide_eq_false (h _ (by omega) hj'))
  rw [e]
  refine ⟨h2.2.2, h2.2.1.trans ?_⟩
  rw [List.take_left' (by rw [List.length_map, List.length_take]; omega)]
theorem catch_never {O : List (Fm × Value)} (h : ∀ j, j < O.length → kindAt O j ≠ 5) : caught (O.map Prod.fst) = none ∧ catchL (O.map Prod.fst) = O.map Prod.fst := by
  have h2 := catch_none (L := O.map Prod.fst) (fun b hb => by
    obtain ⟨q, hq, rfl⟩ := List.mem_map.1 hb
    obtain ⟨j, hj, rfl⟩ := List.getElem_of_mem hq
    rw [catch_at hj]
    exact decide_eq_false (h j hj))
  exact ⟨h2.2.2, h2.2.1⟩
/-- The locals of a frame are none of the blocks of those below it. -/
theorem Fv.above {tB : TypeId} {w : World} {p : Nat} {A : Option Addr} {n cap : Nat} {O : List (Fm × Value)} (h : Fv tB w p (.slice A n cap) O) {i : Nat} (hi : i < O.length) {b : Nat} (hb : O[i].2.ownBlock = some b) : b ∈ Sf p (.slice A n cap) O ∧ b ∉ Sf p (.slice A i cap) (O.take i) := by
  have hm : b ∈ lbs O := mem_lbs.2 ⟨O[i], List.getElem_mem hi, hb⟩
  refine ⟨mem_Sf.2 (Or.inr (Or.inr hm)), fun hx => ?_⟩
  have hv' : (Value.slice A i cap).ownBlock = (Value.slice A n cap).ownBlock := by cases A <;> rfl
  rcases mem_Sf.1 hx with hx | hx | hx
  · exact h.np.2 (hx ▸ hm)
  · rw [hv'] at hx; exact h.nv b hx hm
  · have hO : O = O.take i ++ O[i] :: O.drop (i + 1) := by rw [← List.drop_eq_getElem_cons hi, List.take_append_drop]
    have hn := h.nl
    rw [hO, lbs_app, lbs_cons, List.nodup_append] at hn
    exact hn.2.2 b hx b (List.mem_append.2 (Or.inl (by rw [hb]; simp))) rfl
set_option maxRecDepth 100000 in
set_option maxHeartbeats 4000000 in
theorem rcatch_calls {w : World} {p : Nat} {T : List Nat} {L : List Fm} (h : Fr TR w p T L) : Calls Try.prog 34 #[Pt p] w (Gone TR w p T ((caught L).getD zF) (.bool (caught L).isSome) (catchL L)) := by
  have HH := Lib.hid h
  obtain ⟨v, O, hv, rfl, rfl, hsm⟩ := h
  have hN128 := hv.few
  obtain ⟨A, cap, g, rfl, hA, hc⟩ := hv.cellsAt
  obtain ⟨N, hN⟩ : ∃ N, N = O.length := ⟨_, rfl⟩
  rw [← hN] at hv hA hN128 HH ⊢
  have hle : N ≤ cap := by
    obtain ⟨A2, c2, e, _, h2, _⟩ := hv.slice
    injection e with e1 e2 e3
    omega
  have mA := al_mod w (.cells zC TF)
  have b0 := box_of (Mod.refl [] (w.alloc (.cells zC TF)))
  have c0 := (hv.far mA).c0
  have HN := Lib.hid hN
  have HA := Lib.hid hA
  have HV := Lib.hid (And.intro hv (And.intro hsm mA))
  have HK := Lib.hid (fun i (hi : i < O.length) => (show ∀ k, k < 6 → (w.alloc (.cells zC TF)).cell? ⟨g, i * 6 + k, none⟩ = (flatF O[i])[k]? from fun k hk => by
    have h0 := hc i hi k hk
    obtain ⟨u, hu⟩ : ∃ u, (flatF O[i])[k]? = some u := ⟨_, List.getElem?_eq_getElem (show k < (flatF O[i]).length from hk)⟩
    rw [hu] at h0 ⊢
    exact mA.cell (by simp) h0))
  have HB0 := Lib.hid b0
  have hNI : (N : Int) ≤ 128 := by omega
  clear hv hsm hc mA hN hA b0
  go_enter Try.func34, Try.ntmps34
  go_wp2_with fail
  go_loopw [4] (fun z wr => ∃ m : Nat, z = .int .i64 ((N : Int) - 1 - (m : Int)) ∧ m ≤ N ∧ wr = w.alloc (.cells zC TF) ∧ RowKit.Hid (∀ j, N - m ≤ j → j < N → kindAt O j ≠ 5)) (fun z _ => (intOf z + 1).toNat)
  case atStart => exact ⟨0, by simp, by omega, rfl, Lib.hid fun j h1 h2 => by omega⟩
  case round =>
    obtain ⟨m, rfl, hm, rfl, hall⟩ := hrel
    by_cases hlt : m < N
    · obtain ⟨i, hi⟩ : ∃ i, i = N - 1 - m := ⟨_, rfl⟩
      have hiI : (N : Int) - 1 - (m : Int) = (i : Int) := by omega
      rw [hiI]
      have hin : (i : Int) < (N : Int) := by omega
      have hi0 : (0 : Int) ≤ (i : Int) := by omega
      have hiN : i < N := by omega
      have hiO : i < O.length := HN.out ▸ hiN
      have hA' := HA.out (by omega)
      subst hA'
      have hcc := HK.out i hiO
      have hrest : RowKit.Hid (∀ j, i < j → j < O.length → kindAt O j ≠ 5) := Lib.hid fun j h1 h2 => hall.out j (by omega) (by have := HN.out; omega)
      have hup := upto_frames (some ⟨g, 0, none⟩) N cap i (by omega)
      obtain ⟨q, hq⟩ : ∃ q : Fm × Value, q = O[i]'hiO := ⟨_, rfl⟩
      rw [← hq] at hcc
      have HQ := Lib.hid hq
      clear hq
      obtain ⟨⟨k, a, b, x, y, l⟩, s⟩ := q
      have r0 : (w.alloc (.cells zC TF)).cell? ⟨g, i * 6, none⟩ = some (.int .i64 k) := hcc 0 (by omega)
      have r1 : (w.alloc (.cells zC TF)).cell? ⟨g, i * 6 + 1, none⟩ = some (.int .i64 a) := hcc 1 (by omega)
      have r2 : (w.alloc (.cells zC TF)).cell? ⟨g, i * 6 + 2, none⟩ = some (.int .i64 b) := hcc 2 (by omega)
      have r3 : (w.alloc (.cells zC TF)).cell? ⟨g, i * 6 + 3, none⟩ = some (.int .i64 x) := hcc 3 (by omega)
      have r4 : (w.alloc (.cells zC TF)).cell? ⟨g, i * 6 + 4, none⟩ = some (.int .i64 y) := hcc 4 (by omega)
      have r5 : (w.alloc (.cells zC TF)).cell? ⟨g, i * 6 + 5, none⟩ = some s := hcc 5 (by omega)
      have hkd : kindAt O i = k := by
        rw [kindAt_is hiO, ← HQ.out]
      have HI := Lib.hid (And.intro hi (And.intro hiI hkd))
      clear hi hiI hkd hcc
      by_cases h5 : k = 5
      · have q1 : (k == 5) = true := by simp [h5]
        have hlc : Lc w s l := by
          have := HV.out.1.loc (O[i]'hiO) (List.getElem_mem hiO)
          rw [← HQ.out] at this
          exact this
        obtain ⟨A5, c5, rfl, _⟩ := hlc.ls
        have hres := catch_last (O := O) (i := i) hiO (HI.out.2.2.trans h5) hrest.out
        rw [← HQ.out] at hres
        have m2 := al_mod (w.alloc (.cells zC TF)) (.cells (cellsF ⟨k, a, b, x, y, l⟩ (.slice A5 l.length c5)) TF)
        have mW := HV.out.2.2.trans m2
        have hvW := HV.out.1.far mW
        obtain ⟨r1', r2'⟩ := HV.out.1.shrunk (mW.up (T := (Value.slice (some ⟨g, 0, none⟩) N cap).ownBlock.toList) (by simp)) (hvW.rowTake i (Nat.le_of_lt hiO)) (Nat.le_of_lt hiO)
        have habove := fun b' (hb' : (Value.slice A5 l.length c5).ownBlock = some b') => HV.out.1.above (i := i) hiO (b := b') (by rw [← HQ.out]; exact hb')
        obtain ⟨y0, y1⟩ := two_box (w := w) (c1 := zC) (c2 := cellsF ⟨k, a, b, x, y, l⟩ (.slice A5 l.length c5)) (t1 := TF) (t2 := TF) (Mod.refl [] _)
        have p2 := hvW.c0
        have pf2 := hvW.f 0
        have HE := Lib.hid (And.intro hlc (And.intro hres (And.intro r1' (And.intro r2' (And.intro habove (And.intro y1 (And.intro y0 mW)))))))
        clear hlc hres m2 mW hvW r1' r2' habove y1 y0 h5 hall hrest HK hm hlt
        dsimp only [cellsF] at p2 pf2 HE
        go_upto_region 7 with fail
        obtain ⟨W2, hW2⟩ : ∃ W2, W2 = (w.alloc (.cells zC TF)).alloc (.cells #[.int .i64 k, .int .i64 a, .int .i64 b, .int .i64 x, .int .i64 y, .slice A5 l.length c5] TF) := ⟨_, rfl⟩
        obtain ⟨hlc, hres, r1', r2', habove, y1, y0, mW⟩ := HE.out
        rw [← hW2] at r1' r2' y1 y0 mW p2 pf2 ⊢
        have mS := set_mod W2 p 0 (.slice (some ⟨g, 0, none⟩) i cap)
        have hp0 : p < w.heap.size := HV.out.1.lt p (mem_Sf.2 (Or.inl rfl))
        have b1' := (mS.block _ (Array.getElem?_eq_some_iff.1 y1).1 (by simp; omega)).trans y1
        have b0' := (mS.block _ (Array.getElem?_eq_some_iff.1 y0).1 (by simp; omega)).trans y0
        obtain ⟨z1, z2⟩ := six_set (v0 := .int .i64 k) (v1 := .int .i64 a) (v2 := .int .i64 b) (v3 := .int .i64 x) (v4 := .int .i64 y) (v5 := .slice A5 l.length c5) b0'
        have hlc5 := ((hlc.far mW).mod mS (fun g' hg' hx => (habove g' hg').2 (mem_Sf.2 (Or.inl (by simpa using hx))))).mod z2 (fun g' hg' hx => by
          have h6 : g' = w.heap.size := by simpa using hx
          have := HV.out.1.lt g' (habove g' hg').1
          omega)
        have hF2 := r1'.mod z2 (fun u hu hx => by
          have h6 : u = w.heap.size := by simpa using hx
          have hu' : u ∈ Sf p (.slice (some ⟨g, 0, none⟩) N cap) O := by
            rcases mem_Sf.1 hu with h7 | h7 | h7
            · exact mem_Sf.2 (Or.inl h7)
            · exact mem_Sf.2 (Or.inr (Or.inl h7))
            · refine mem_Sf.2 (Or.inr (Or.inr ?_))
              have e : lbs O = lbs (O.take i) ++ lbs (O.drop i) := by rw [← lbs_app, List.take_append_drop]
              rw [e]
              exact List.mem_append.2 (Or.inl h7)
          have := HV.out.1.lt u hu'
          omega)
        have hT2 : Turn (Sf p (.slice (some ⟨g, 0, none⟩) N cap) O) (Sf p (.slice (some ⟨g, 0, none⟩) i cap) (O.take i)) w (sixSet (W2.setCell ⟨p, 0, none⟩ (.slice (some ⟨g, 0, none⟩) i cap)) w.heap.size (.int .i64 k) (.int .i64 a) (.int .i64 b) (.int .i64 x) (.int .i64 y) (.slice A5 l.length c5)) := ⟨r2'.1.then z2 fun u hu => Or.inr (by rw [List.mem_singleton.1 hu]; exact Nat.le_refl _), r2'.2⟩
        have HZ := Lib.hid (And.intro z1 (And.intro hlc5 (And.intro hF2 (And.intro hT2 (And.intro habove hres)))))
        clear hlc hres r1' r2' habove y1 y0 mW z1 z2 hlc5 hF2 hT2 HE r0 r1 r2 r3 r4 r5 c0 p2 pf2 mS hp0 hW2
        generalize (W2.setCell ⟨p, 0, none⟩ (.slice (some ⟨g, 0, none⟩) i cap)) = X6 at b1' b0' HZ ⊢
        obtain ⟨c0, c1, c2, c3, c4, c5', f0, f1, f2, f3, f4, f5⟩ := six_at b1'
        obtain ⟨d0, d1, d2, d3, d4, d5, g0, g1, g2, g3, g4, g5⟩ := six_at b0'
        clear b1' b0'
        go_wp2_with fail
        obtain ⟨z1, hlc2, hF2, hT2, habove, hres⟩ := HZ.out
        rw [hres.1, hres.2]
        exact bodyPost_ret (res_fr2 Try.results34 rfl z1) rfl ⟨_, rfl, hlc2, _, ⟨_, _, hF2, by rw [List.map_take], rfl, fun r hr => HV.out.2.1 r (List.mem_of_mem_take hr)⟩, hT2, fun g' hg' => ⟨Or.inl (habove g' hg').1, (habove g' hg').2⟩⟩
      · have q1 : (k == 5) = false := by simpa using h5
        have HX := Lib.hid h5
        clear h5
        go_wp2_with fail
        go_roundw
        case rel => exact ⟨m + 1, by have := HI.out.2.1; congr 1; omega, by omega, by first | rfl | trivial, Lib.hid fun j h1 h2 => by
          by_cases e : j = i
          · subst e; rw [HI.out.2.2]; exact HX.out
          · exact hall.out j (by have := HI.out.1; omega) h2⟩
        case measure => have := HI.out.2.1; simp [intOf]
    · have hm' : m = N := by omega
      have hz : (N : Int) - 1 - (m : Int) = -1 := by omega
      rw [hz]
      have hres := catch_never (O := O) fun j hj => hall.out j (by omega) (by have := HN.out; omega)
      have HRS := Lib.hid hres
      obtain ⟨d0, d1, d2, d3, d4, d5, g0, g1, g2, g3, g4, g5⟩ := six_at HB0.out
      clear hm' hz hres hall
      go_wp2_with fail
      rw [HRS.out.1, HRS.out.2]
      exact bodyPost_ret (res_fr2 Try.results34 rfl HB0.out) rfl ⟨.slice none 0 0, rfl, Lc.nil _, _, HH.out.far HV.out.2.2, (Turn.refl _ w).far HV.out.2.2, fun g hg => by cases hg⟩
end Go.Proofs.Ytacmidlhfcnkiaa
