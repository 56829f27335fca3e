/- Layer 12: the document's All. No condition. -/
import Derived.Test.YtgmdagjaigbajaaTJ
namespace Go.Proofs.Ytgmdagjaigbajaa
open Go.RowKit
set_option linter.unusedVariables false

theorem Bx5.set {w : World} {q : Nat} {x0 x1 x2 x3 x4 : Value} (h : Bx5 w q x0 x1 x2 x3 x4) (v : Value) : Bx5 (w.setCell ⟨q, 3, none⟩ v) q x0 x1 x2 v x4 ∧ Bx5 (w.setCell ⟨q, 4, none⟩ v) q x0 x1 x2 x3 v := by
  have hs : ∀ i, (w.setCell ⟨q, i, none⟩ v).heap.size = w.heap.size := fun i => by simp [World.setCell]
  have o : ∀ i j, i ≠ j → (w.setCell ⟨q, i, none⟩ v).cell? ⟨q, j, none⟩ = w.cell? ⟨q, j, none⟩ := fun i j hij => World.cell?_setCell_other _ _ _ _ (by first | (simp; done) | (simp; omega))
  refine ⟨⟨?_, ?_, ?_, ?_, ?_, fun i => (World.frozen?_setCell _ _ _ _).trans (h.f i), by rw [hs]; exact h.lt⟩, ⟨?_, ?_, ?_, ?_, ?_, fun i => (World.frozen?_setCell _ _ _ _).trans (h.f i), by rw [hs]; exact h.lt⟩⟩
  · rw [o 3 0 (by decide)]; exact h.c0
  · rw [o 3 1 (by decide)]; exact h.c1
  · rw [o 3 2 (by decide)]; exact h.c2
  · exact World.cell?_setCell_same _ _ _ (h := h.c3)
  · rw [o 3 4 (by decide)]; exact h.c4
  · rw [o 4 0 (by decide)]; exact h.c0
  · rw [o 4 1 (by decide)]; exact h.c1
  · rw [o 4 2 (by decide)]; exact h.c2
  · rw [o 4 3 (by decide)]; exact h.c3
  · exact World.cell?_setCell_same _ _ _ (h := h.c4)
set_option maxRecDepth 100000 in
set_option maxHeartbeats 8000000 in
theorem rall_calls (w : World) : Calls Try.prog 11 #[] w fun e w' => ∃ v, e = .returned v ∧ Er w' w.heap.size v tab ∧ Mod [] w w' := by
  have N1 := Lib.hid (fun (n : Int) (W : World) => rnow_calls n W)
  have N2 := Lib.hid (fun (n : Int) (W : World) => ronly_calls n W)
  go_enter Try.func11, Try.ntmps11
  go_wp2_with fail
  go_loopw [1, 2] (fun v y wr => ∃ kk : Nat, y = .int .i64 ((kk : Int) + 1) ∧ kk ≤ 4 ∧ RowKit.Hid (Er wr w.heap.size v (upK kk) ∧ Mod [] w wr)) (fun _ y _ => 6 - (intOf y).toNat)
  case atStart => exact ⟨0, rfl, by omega, Lib.hid ⟨Er.nil _ _, Mod.refl _ _⟩⟩
  case round =>
    obtain ⟨kk, rfl, hk4, hi⟩ := hrel
    obtain ⟨wo, hwo⟩ : ∃ wo, wo = wr := ⟨_, rfl⟩
    subst hwo
    obtain ⟨hE, hM⟩ := hi.out
    clear hi
    by_cases hlt : kk < 4
    · have hkI : (kk : Int) + 1 ≤ 4 := by omega
      have HE := Lib.hid hE
      have HM := Lib.hid hM
      have G1 := Lib.hid (rnames_calls wo ((kk : Int) + 1))
      have hup := upK_len kk
      obtain ⟨k, hk⟩ : ∃ k, k = (kk : Int) + 1 := ⟨_, rfl⟩
      have HK := Lib.hid hk
      rw [← hk] at G1 hkI ⊢
      have hk1 : 1 ≤ k := by omega
      have hwk : wrap64 (k + 1) = k + 1 := IntWalk.wrap64_in _ (by omega)
      clear hE hM hk
      go_wp2_with fail
      refine (G1.out).mono ?_
      rintro e w2 ⟨A1, c1, rfl, t1, m1, l1⟩
      have hnl := names_len k
      obtain ⟨n1, hn1⟩ : ∃ n, n = (namesK k).length := ⟨_, rfl⟩
      rw [← hn1]
      have HN1 := Lib.hid hn1
      rw [← hn1] at hnl
      have M1 := Lib.hid m1
      have T1 := Lib.hid t1
      have L1 := Lib.hid l1
      clear hn1 m1 t1 l1
      go_wp2_with fail
      go_loopw [1, 4] (fun v y wi => ∃ j : Nat, y = .int .i64 (j : Int) ∧ j ≤ n1 ∧ RowKit.Hid (Er wi w.heap.size v (upK kk ++ tabF k 0 ((namesK k).take j)) ∧ Kept wo.heap.size w2 wi ∧ Mod [] w wi ∧ ∀ b, v.ownBlock = some b → b < wo.heap.size ∨ w2.heap.size ≤ b)) (fun _ y _ => n1 - (intOf y).toNat)
      case atStart =>
        refine ⟨0, rfl, by omega, Lib.hid ⟨?_, Kept.refl _ _, HM.out.trans M1.out, fun b hb => Or.inl ?_⟩⟩
        · have := HE.out.far M1.out
          simpa [tabF] using this
        · rcases HE.out.2 with ⟨e, _⟩ | ⟨g', cap, cur, e, _, h3, _⟩
          · rw [e] at hb; cases hb
          · rw [e] at hb
            have : g' = b := by simpa [Value.ownBlock] using hb
            rw [← this]
            exact (Array.getElem?_eq_some_iff.1 h3).1
      case round =>
        obtain ⟨j, rfl, hjn, hi⟩ := hrel
        by_cases hjl : j < n1
        · have hjI : (j : Int) < (n1 : Int) := by omega
          have hjN : j < (namesK k).length := by rw [← HN1.out]; exact hjl
          obtain ⟨h1, h2, h3, h4⟩ := hi.out
          obtain ⟨b, o, hA, hc⟩ := tx_get (T1.out.kept h2 L1.out) j hjN
          have hA1 := hA
          subst hA
          have hent := ent_is ⟨hk1, hkI⟩ j hjN
          obtain ⟨s, hs⟩ : ∃ s, s = (namesK k)[j] := ⟨_, rfl⟩
          rw [← hs] at hc hent
          obtain ⟨c, hcc⟩ : ∃ c, c = entK k j s := ⟨_, rfl⟩
          have HC := Lib.hid (And.intro hcc (And.intro hs (hcc.trans hent)))
          obtain ⟨S, hS⟩ : ∃ S, S = str s := ⟨_, rfl⟩
          have HS := Lib.hid hS
          rw [← hS] at hc
          have b5 := Bx5.new wr (.string S) (.int .i64 k) (.int .i64 ((j : Int) + 1)) (.bool false) (.bool false) 24
          have m5 : Mod [] wr (wr.alloc (.cells #[.string S, .int .i64 k, .int .i64 ((j : Int) + 1), .bool false, .bool false] 24)) := (Mod.refl [] wr).alloc _
          have HI := Lib.hid (And.intro h1 (And.intro h2 (And.intro h3 h4)))
          have hwj : wrap64 ((j : Int) + 1) = (j : Int) + 1 := IntWalk.wrap64_in _ (by omega)
          clear h1 h2 h3 h4 hi hcc hent hs hS
          go_upto_region 10 with fail
          generalize wr.alloc (.cells #[.string S, .int .i64 k, .int .i64 ((j : Int) + 1), .bool false, .bool false] 24) = W1 at *
          obtain ⟨q, hq⟩ : ∃ q, q = wr.heap.size := ⟨_, rfl⟩
          rw [← hq] at b5 ⊢
          have HQ := Lib.hid (show wr.heap.size ≤ q from Nat.le_of_eq hq.symm)
          have b6 := (b5.set (.bool (rNow k j))).1
          have b7 := (b6.set (.bool (rOnly k j))).2
          have m7 := m5.far1 (((Mod.refl [q] W1).set (x := ⟨q, 3, none⟩) (Or.inl (by simp)) (.bool (rNow k j))).set (x := ⟨q, 4, none⟩) (Or.inl (by simp)) (.bool (rOnly k j))) HQ.out
          obtain ⟨r3, hr3⟩ : ∃ r, r = rNow k j := ⟨_, rfl⟩
          obtain ⟨r4, hr4⟩ : ∃ r, r = rOnly k j := ⟨_, rfl⟩
          rw [← hr3] at b6
          rw [← hr3, ← hr4] at b7 m7
          have B6 := Lib.hid b6
          have B7 := Lib.hid b7
          have M7 := Lib.hid m7
          have HR := Lib.hid (And.intro hr3 hr4)
          obtain ⟨q0, q1, q2, q3, q4, qf, _⟩ := b5
          have qf3 := qf 3
          clear hq b6 b7 m7 m5 qf hc hr3 hr4
          go_upto_region 10 with fail
          go_cut [26] (fun _ wx => wx = W1.setCell ⟨q, 3, none⟩ (.bool r3))
          case first =>
            by_cases k3 : k = 3
            · subst k3
              go_wp2_with fail
              go_meet
              rw [HR.out.1]
              rfl
            · have e3 : (k == 3) = false := by rw [beq_eq_false_iff_ne]; exact k3
              by_cases k4 : k = 4
              · subst k4
                go_wp2_with fail
                refine (N1.out _ _).mono ?_
                rintro e w5 ⟨rfl, rfl⟩
                go_wp2_with fail
                go_meet
                rw [HR.out.1]
                rfl
              · have e4 : (k == 4) = false := by rw [beq_eq_false_iff_ne]; exact k4
                have e5 := HR.out.1
                unfold rNow at e5
                rw [if_neg k3, if_neg k4] at e5
                clear k3 k4
                go_wp2_with fail
                go_meet
                rw [e5]
          case rest =>
            subst hcut
            clear q0 q1 q2 q3 q4 qf3
            obtain ⟨q0, q1, q2, q3, q4, qf, _⟩ := B6.out
            have qf4 := qf 4
            clear qf
            generalize W1.setCell ⟨q, 3, none⟩ (.bool r3) = W2 at *
            go_upto_region 11 with fail
            go_cut [38] (fun _ wx => wx = W2.setCell ⟨q, 4, none⟩ (.bool r4))
            case first =>
              by_cases k3 : k = 3
              · subst k3
                go_wp2_with fail
                go_meet
                rw [HR.out.2]
                rfl
              · have e3 : (k == 3) = false := by rw [beq_eq_false_iff_ne]; exact k3
                by_cases k2 : k = 2
                · subst k2
                  have e5 := HR.out.2
                  unfold rOnly at e5
                  rw [if_neg (by decide), if_pos rfl] at e5
                  by_cases j6 : (j : Int) < 6
                  · rw [decide_eq_true j6] at e5
                    have d6 : decide ((j : Int) < 6) = true := decide_eq_true j6
                    go_wp2_with fail
                    go_meet
                    rw [e5]
                  · rw [decide_eq_false j6] at e5
                    have d6 : decide ((j : Int) < 6) = false := decide_eq_false j6
                    go_wp2_with fail
                    go_meet
                    rw [e5]
                · have e2 : (k == 2) = false := by rw [beq_eq_false_iff_ne]; exact k2
                  by_cases k4 : k = 4
                  · subst k4
                    go_wp2_with fail
                    refine (N2.out _ _).mono ?_
                    rintro e w5 ⟨rfl, rfl⟩
                    go_wp2_with fail
                    go_meet
                    rw [HR.out.2]
                    rfl
                  · have e4 : (k == 4) = false := by rw [beq_eq_false_iff_ne]; exact k4
                    have e5 := HR.out.2
                    unfold rOnly at e5
                    rw [if_neg k3, if_neg k2, if_neg k4] at e5
                    clear k3 k4 k2
                    go_wp2_with fail
                    go_meet
                    rw [e5]
            case rest =>
              subst hcut
              clear q0 q1 q2 q3 q4 qf4
              obtain ⟨q0, q1, q2, q3, q4, _, _⟩ := B7.out
              generalize W2.setCell ⟨q, 4, none⟩ (.bool r4) = W3 at *
              obtain ⟨e1, e2, e3, e4⟩ := HI.out
              have m8 := M7.out
              have hcv : c = ⟨s, k, j + 1, r3, r4⟩ := by rw [HC.out.2.2, ← HR.out.1, ← HR.out.2]
              have hm : Mod [] W3 (W3.alloc (.cells #[.string S, .int .i64 k, .int .i64 ((j : Int) + 1), .bool r3, .bool r4] 24)) := (Mod.refl [] W3).alloc _
              have X1 := Lib.hid ((e1.far m8).far hm)
              have X2 := Lib.hid ((e2.far m8).far hm)
              have X3 := Lib.hid ((e3.trans m8).trans hm)
              have X4 := Lib.hid e4
              have XC := Lib.hid (show ∀ i u, (enV c)[i]? = some u → (W3.alloc (.cells #[.string S, .int .i64 k, .int .i64 ((j : Int) + 1), .bool r3, .bool r4] 24)).cell? ((⟨W3.heap.size, 0, none⟩ : Addr).add i) = some u from by
                have := en_new W3 c 24
                rw [hcv] at this ⊢
                rw [HS.out]
                exact this)
              have XL := Lib.hid (show (upK kk ++ tabF k 0 ((namesK k).take j)).length ≤ 1000000 by rw [List.length_append, tabF_len, List.length_take]; omega)
              clear e1 e2 e3 e4 m8 hcv hm
              go_wp2_with (refine wpList_appE rfl (.tmp 58) (.tmp 60) rfl X1.out X3.out.size XL.out _ 1 c XC.out rfl rfl ?_)
              intro v' w' b1 b2 b3
              have R1 := Lib.hid b1
              have R2 := Lib.hid (X2.out.mod b2 fun x hx => X4.out x (by simpa using hx))
              have R3 := Lib.hid (X3.out.then b2 fun x hx => Or.inr (X1.out.own x (by simpa using hx)))
              have R4 := Lib.hid (show ∀ b, v'.ownBlock = some b → b < wo.heap.size ∨ w2.heap.size ≤ b from fun b hb => b3.elim (fun e => X4.out b (by rw [← e]; exact hb)) fun e => by
                have hb2 := Option.some.inj (e.symm.trans hb)
                rw [← hb2]
                have := X2.out.size
                rw [size_allocT] at this
                exact Or.inr this)
              clear b1 b2 b3
              go_wp2_with fail
              go_roundw
              case rel => exact ⟨j + 1, by go_num, by omega, Lib.hid ⟨by rw [tabF_take k _ j hjN, ← HC.out.2.1, ← HC.out.1]; exact R1.out, R2.out, R3.out, R4.out⟩⟩
              case measure => simp [intOf]; omega
        · have hjI : ¬ (j : Int) < (n1 : Int) := by omega
          have hj : j = (namesK k).length := by have := HN1.out; omega
          have hi2 := hi.out
          rw [hj, List.take_of_length_le (Nat.le_refl _)] at hi2
          have HI := Lib.hid hi2
          clear hi hi2 hj
          go_wp2_with fail
          go_roundw
          case rel => exact ⟨kk + 1, by rw [HK.out]; rfl, by omega, Lib.hid ⟨by have := HI.out.1; unfold upK; unfold tabK; rw [← HK.out]; exact this, HI.out.2.2.1⟩⟩
          case measure => have := HK.out; simp [intOf]; omega
    · have hkI : ¬ (kk : Int) + 1 ≤ 4 := by omega
      have e4 : kk = 4 := by omega
      subst e4
      rw [upK_all] at hE
      have HE := Lib.hid hE
      have HM := Lib.hid hM
      clear hE hM
      go_wp2_with fail
      go_ret
      exact ⟨_, rfl, HE.out, HM.out⟩
end Go.Proofs.Ytgmdagjaigbajaa
