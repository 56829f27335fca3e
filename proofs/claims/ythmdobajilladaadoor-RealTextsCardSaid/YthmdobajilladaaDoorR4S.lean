/- The document's answers for layer 4: a number cut down. Condition: the place is of at most five digits. -/
import Derived.Test.YthmdobajilladaaDoorR4R
namespace Go.Proofs.YthmdobajilladaaDoor
open Go.RowKit
set_option linter.unusedVariables false
open Ieee (double)

theorem u64_low (a : Nat) (h : a < 18446744073709551616) : IntKind.u64.wrap (wrap64 (a : Int)) = (a : Int) := u64_of_wrap _ (by omega) (by omega)
theorem wrap_nil (b : Nat) (h : b < 18446744073709551616) : wrap64 (b : Int) = 0 ↔ b = 0 := by unfold wrap64; omega
theorem wrap_zero (b : Nat) (h : b < 18446744073709551616) (t : Bool) (ht : (b != 0) = t) : (wrap64 (b : Int) != 0) = t := by
  rw [← ht, Bool.eq_iff_iff, bne_iff_ne, bne_iff_ne]
  exact not_congr (wrap_nil b h)
theorem wrap_even (a : Nat) (h : a < 18446744073709551616) : (wrap64 (a : Int)).tmod 2 = 0 ↔ a % 2 = 0 := by
  have e : (wrap64 (a : Int)).tmod 2 = 0 ↔ (wrap64 (a : Int)) % 2 = 0 :=
    ⟨fun q => by have := Int.dvd_of_tmod_eq_zero q; omega, fun q => Int.tmod_eq_zero_of_dvd (Int.dvd_of_emod_eq_zero q)⟩
  rw [e]
  unfold wrap64
  omega
theorem wrap_odd (a : Nat) (h : a < 18446744073709551616) (t : Bool) (ht : (a % 2 == 1) = t) : ((wrap64 (a : Int)).tmod 2 != 0) = t := by
  rw [← ht, Bool.eq_iff_iff, bne_iff_ne, beq_iff_eq, Ne, wrap_even a h]
  omega
theorem nat_low (a : Nat) : (0 : Int) ≤ (a : Int) := Int.natCast_nonneg a
theorem nat_high (a : Nat) (h : a < 18446744073709551616) : (a : Int) < 18446744073709551616 := by omega
theorem half_cell (a : Nat) (h : a < 18446744073709551616) : wrap64 ((a / 2 : Nat) : Int) = (a : Int) / 2 := by unfold wrap64; omega
theorem le54 {a : Nat} (h : 18014398509481984 ≤ a) : (18014398509481984 : Int) ≤ (a : Int) := by omega
theorem nle54 {a : Nat} (h : ¬ 18014398509481984 ≤ a) : ¬ (18014398509481984 : Int) ≤ (a : Int) := by omega
theorem even_of_zero {b : Nat} (h : b = 0) : b % 2 = 0 := by omega
/-- A step where the upper cell is even. -/
theorem step_even {e0 : Int} {P0 : Nat} {fin : Nat × Int × Bool} {a b : Nat} {E : Int} {mm : Bool} (h : CutInv e0 P0 fin a b E mm) (h0 : P0 < 2 ^ 128) (he : e0 ≤ 20000) (c : b ≠ 0 ∨ 18014398509481984 ≤ a ∨ E < -1075) (o : Bool) (ho : (a % 2 == 1) = o) (hb : b % 2 = 0) :
    ∃ x y : Nat, CutInv e0 P0 fin x y (E + 1) (mm || o) ∧ E < 40000 ∧ wrap64 (x : Int) = (a : Int) / 2 ∧ wrap64 (y : Int) = (b : Int) / 2 := by
  obtain ⟨k, hE⟩ := h.step h0 he c o ho (a / 2) (by rw [if_neg (by omega), Nat.add_zero])
  exact ⟨a / 2, b / 2, k, hE, half_cell a h.ha, half_cell b h.hb⟩
/-- A step where it is odd. -/
theorem step_odd {e0 : Int} {P0 : Nat} {fin : Nat × Int × Bool} {a b : Nat} {E : Int} {mm : Bool} (h : CutInv e0 P0 fin a b E mm) (h0 : P0 < 2 ^ 128) (he : e0 ≤ 20000) (c : b ≠ 0 ∨ 18014398509481984 ≤ a ∨ E < -1075) (o : Bool) (ho : (a % 2 == 1) = o) (hb : b % 2 = 1) :
    ∃ x y : Nat, CutInv e0 P0 fin x y (E + 1) (mm || o) ∧ E < 40000 ∧ wrap64 (x : Int) = wrap64 ((a : Int) / 2 + 9223372036854775808) ∧ wrap64 (y : Int) = (b : Int) / 2 := by
  obtain ⟨x, hx⟩ : ∃ x : Nat, x = a / 2 + (if b % 2 = 1 then 9223372036854775808 else 0) := ⟨_, rfl⟩
  obtain ⟨k, hE⟩ := h.step h0 he c o ho x hx
  refine ⟨x, b / 2, k, hE, ?_, half_cell b h.hb⟩
  rw [if_pos hb] at hx
  have e : (x : Int) = (a : Int) / 2 + 9223372036854775808 := by omega
  rw [e]
/-- The end: what is laid together. -/
theorem norm_val (s : Bool) (E : Int) (q : Nat) (h1 : -1075 ≤ E) (h2 : E + 1 ≤ 971) (h3 : 4503599627370496 ≤ q) (h4 : q < 9007199254740992) : 0 ≤ (E + 1 + 1075) * 4503599627370496 + (q : Int) - 4503599627370496 ∧ (E + 1 + 1075) * 4503599627370496 + (q : Int) - 4503599627370496 < 9223372036854775808 ∧
    wrap64 (if s then (E + 1 + 1075) * 4503599627370496 + (q : Int) - 4503599627370496 + 9223372036854775808 else (E + 1 + 1075) * 4503599627370496 + (q : Int) - 4503599627370496) = cellOf (double.word s ((E + 1 + 1075).toNat * 4503599627370496 + q - 4503599627370496)) := by
  have hr : (E + 1 + 1075).toNat * 4503599627370496 + q - 4503599627370496 ≤ 9218868437227405312 := by omega
  have er : (((E + 1 + 1075).toNat * 4503599627370496 + q - 4503599627370496 : Nat) : Int) = (E + 1 + 1075) * 4503599627370496 + (q : Int) - 4503599627370496 := by omega
  have k := cell_word s _ hr
  rw [er] at k
  exact ⟨by omega, by omega, k⟩
theorem sub_val (s : Bool) (q : Nat) (h : q < 4503599627370496) : (0 : Int) ≤ (q : Int) ∧ (q : Int) < 9223372036854775808 ∧ wrap64 (if s then (q : Int) + 9223372036854775808 else (q : Int)) = cellOf (double.word s q) :=
  ⟨by omega, by omega, cell_word s q (by omega)⟩
/-- The cell l holds the bits a. -/
structure Cel (l : Int) (a : Nat) : Prop where
  lt : a < 18446744073709551616
  is : l = wrap64 (a : Int)
theorem Cel.u64 {l : Int} {a : Nat} (h : Cel l a) : IntKind.u64.wrap l = (a : Int) := by rw [h.is]; exact u64_low a h.lt
theorem Cel.zero {l : Int} {a : Nat} (h : Cel l a) (t : Bool) (ht : (a != 0) = t) : (l != 0) = t := by rw [h.is]; exact wrap_zero a h.lt t ht
theorem Cel.odd {l : Int} {a : Nat} (h : Cel l a) (t : Bool) (ht : (a % 2 == 1) = t) : (l.tmod 2 != 0) = t := by rw [h.is]; exact wrap_odd a h.lt t ht
theorem cel_even {e0 : Int} {P0 : Nat} {fin : Nat × Int × Bool} {a b : Nat} {E : Int} {mm : Bool} (h : CutInv e0 P0 fin a b E mm) (h0 : P0 < 2 ^ 128) (he : e0 ≤ 20000) (c : b ≠ 0 ∨ 18014398509481984 ≤ a ∨ E < -1075) (o : Bool) (ho : (a % 2 == 1) = o) (hb : b % 2 = 0) :
    ∃ x y : Nat, CutInv e0 P0 fin x y (E + 1) (mm || o) ∧ E < 40000 ∧ Cel ((a : Int) / 2) x ∧ Cel ((b : Int) / 2) y := by
  obtain ⟨x, y, k, hE, hx, hy⟩ := step_even h h0 he c o ho hb
  exact ⟨x, y, k, hE, ⟨k.ha, hx.symm⟩, ⟨k.hb, hy.symm⟩⟩
theorem cel_odd {e0 : Int} {P0 : Nat} {fin : Nat × Int × Bool} {a b : Nat} {E : Int} {mm : Bool} (h : CutInv e0 P0 fin a b E mm) (h0 : P0 < 2 ^ 128) (he : e0 ≤ 20000) (c : b ≠ 0 ∨ 18014398509481984 ≤ a ∨ E < -1075) (o : Bool) (ho : (a % 2 == 1) = o) (hb : b % 2 = 1) :
    ∃ x y : Nat, CutInv e0 P0 fin x y (E + 1) (mm || o) ∧ E < 40000 ∧ Cel (wrap64 ((a : Int) / 2 + 9223372036854775808)) x ∧ Cel ((b : Int) / 2) y := by
  obtain ⟨x, y, k, hE, hx, hy⟩ := step_odd h h0 he c o ho hb
  exact ⟨x, y, k, hE, ⟨k.ha, hx.symm⟩, ⟨k.hb, hy.symm⟩⟩
section
variable {s : Bool} {a : Nat} {E : Int} {mm : Bool} {fin : Nat × Int × Bool} {res : Int} (hres : res = cellOf (cutR s fin)) (hst : fin = (a, E, mm)) {n : Nat} (hm : (if a % 2 = 1 ∧ (mm = true ∨ a / 2 % 2 = 1) then a / 2 + 1 else a / 2) = n) (m : Int) (hn : (n : Int) = m)
include hres hst hm
theorem way_inf (c : n < 9007199254740992) (k : 971 < E + 1) (w : World) : Calls Tryd.prog 64 #[.bool s] w fun e w' => e = .returned (.int .i64 res) ∧ w = w' := by
  have h := rinf4 s w
  rw [hres, hst, cutR_inf s a E mm n hm c k]
  exact h
include hn
theorem way_sub (c : n < 4503599627370496) (k : E + 1 ≤ 971) (w : World) : Calls Tryd.prog 28 #[.bool s, .int .u64 m] w fun e w' => e = .returned (.int .i64 res) ∧ w = w' := by
  obtain ⟨h0, h1, h2⟩ := sub_val s n c
  have h := rsigned4 s (n : Int) h0 h1 w
  rw [h2, hn] at h
  rw [hres, hst, cutR_sub s a E mm n hm c k]
  exact h
theorem way_norm (c : n < 9007199254740992) (d : ¬ n < 4503599627370496) (k : E + 1 ≤ 971) (lo : -1075 ≤ E) (w : World) : Calls Tryd.prog 28 #[.bool s, .int .u64 ((E + 1 + 1075) * 4503599627370496 + m - 4503599627370496)] w fun e w' => e = .returned (.int .i64 res) ∧ w = w' := by
  obtain ⟨h0, h1, h2⟩ := norm_val s E n lo k (Nat.le_of_not_lt d) c
  have h := rsigned4 s _ h0 h1 w
  rw [h2, hn] at h
  rw [hres, hst, cutR_norm s a E mm n hm c d k]
  exact h
end
section
variable {s : Bool} {a : Nat} {E : Int} {mm : Bool} {fin : Nat × Int × Bool} {res : Int} (hres : res = cellOf (cutR s fin)) (hst : fin = (a, E, mm)) (hm : (if a % 2 = 1 ∧ (mm = true ∨ a / 2 % 2 = 1) then a / 2 + 1 else a / 2) = 9007199254740992)
include hres hst hm
theorem way_cinf (k : 971 < E + 1 + 1) (w : World) : Calls Tryd.prog 64 #[.bool s] w fun e w' => e = .returned (.int .i64 res) ∧ w = w' := by
  have h := rinf4 s w
  rw [hres, hst, cutR_cinf s a E mm hm k]
  exact h
theorem way_cnorm (k : E + 1 + 1 ≤ 971) (lo : -1075 ≤ E) (w : World) : Calls Tryd.prog 28 #[.bool s, .int .u64 ((E + 1 + 1 + 1075) * 4503599627370496)] w fun e w' => e = .returned (.int .i64 res) ∧ w = w' := by
  have hr : (E + 1 + 1 + 1075).toNat * 4503599627370496 + 4503599627370496 - 4503599627370496 ≤ 9218868437227405312 := by omega
  have er : (((E + 1 + 1 + 1075).toNat * 4503599627370496 + 4503599627370496 - 4503599627370496 : Nat) : Int) = (E + 1 + 1 + 1075) * 4503599627370496 := by omega
  have k2 := cell_word s _ hr
  rw [er] at k2
  have h := rsigned4 s ((E + 1 + 1 + 1075) * 4503599627370496) (by omega) (by omega) w
  rw [k2] at h
  rw [hres, hst, cutR_cnorm s a E mm hm k]
  exact h
end
theorem half_bd {a : Nat} (h : ¬ 18014398509481984 ≤ a) : a / 2 < 9007199254740992 := by omega
theorem int_bd {q : Nat} (h : q < 9007199254740992) : ¬ (9007199254740992 : Int) ≤ (q : Int) := by omega
theorem int_lo {q : Nat} (h : q < 4503599627370496) : (q : Int) < 4503599627370496 := by omega
theorem int_hi {q : Nat} (h : ¬ q < 4503599627370496) : ¬ (q : Int) < 4503599627370496 := by omega
theorem int_lo1 {q : Nat} (h : q + 1 < 4503599627370496) : (q : Int) + 1 < 4503599627370496 := by omega
theorem int_hi1 {q : Nat} (h : ¬ q + 1 < 4503599627370496) : ¬ (q : Int) + 1 < 4503599627370496 := by omega
theorem odd_test {a : Nat} (t : Bool) (h : (a % 2 == 1) = t) : ((a : Int) % 2 == 1) = t := by
  rw [← h, Bool.eq_iff_iff, beq_iff_eq, beq_iff_eq]; omega
theorem inc_no (a : Nat) (mm : Bool) (h : a % 2 = 0 ∨ (mm = false ∧ a / 2 % 2 = 0)) : (if a % 2 = 1 ∧ (mm = true ∨ a / 2 % 2 = 1) then a / 2 + 1 else a / 2) = a / 2 := by
  apply if_neg
  rintro ⟨p, q⟩
  rcases h with h | ⟨h1, h2⟩
  · omega
  · rcases q with q | q
    · rw [h1] at q; cases q
    · omega
theorem inc_yes (a : Nat) (mm : Bool) (h : a % 2 = 1) (k : mm = true ∨ a / 2 % 2 = 1) : (if a % 2 = 1 ∧ (mm = true ∨ a / 2 % 2 = 1) then a / 2 + 1 else a / 2) = a / 2 + 1 := if_pos ⟨h, k⟩
theorem carry_no {q : Nat} (h : q < 9007199254740992) (k : ¬ q + 1 = 9007199254740992) : q + 1 < 9007199254740992 ∧ ¬ (9007199254740992 : Int) ≤ (q : Int) + 1 := by omega
theorem carry_yes {q : Nat} (k : q + 1 = 9007199254740992) : (q : Int) + 1 = 9007199254740992 := by omega
set_option maxHeartbeats 16000000 in
set_option maxRecDepth 100000 in
theorem rcut4 (s : Bool) (l0 h0 : Int) (a0 b0 : Nat) (k0 : Cel l0 a0) (k1 : Cel h0 b0) (e0 : Int) (m0 : Bool) (P0 : Nat) (hP0 : P0 < 2 ^ 128) (he : e0 ≤ 20000) (fin : Nat × Int × Bool) (hi0 : CutInv e0 P0 fin a0 b0 e0 m0) (hnz : (l0 == 0 && h0 == 0) = false) (elo : -20000 ≤ e0) (w : World) :
    Calls Tryd.prog 45 #[.bool s, .agg #[.int .i64 l0, .int .i64 h0], .int .i64 e0, .bool m0] w fun e w' => e = .returned (.int .i64 (cellOf (cutR s fin))) ∧ Ext w w' := by
  have hsg := Lib.hid (rsigned4 s)
  have hin := Lib.hid (rinf4 s)
  have HP := Lib.hid hP0
  obtain ⟨res, hres⟩ : ∃ res, res = cellOf (cutR s fin) := ⟨_, rfl⟩
  rw [← hres]
  have RES := Lib.hid hres
  clear hP0 hres
  go_enter Tryd.func45, Tryd.ntmps45
  go_wp2
  clear hnz
  have o0 : Own (w.alloc (.cells #[Value.int .i64 l0, Value.int .i64 h0] 56)) w.heap.size (.int .i64 l0) (.int .i64 h0) := Own.last
  have hE : Ext w (w.alloc (.cells #[Value.int .i64 l0, Value.int .i64 h0] 56)) := (Ext.refl w).cells _ _
  go_loopw [2, 3] (fun e m wr => ∃ (a b : Nat) (E : Int) (mm : Bool) (l h : Int), e = .int .i64 E ∧ m = .bool mm ∧ CutInv e0 P0 fin a b E mm ∧ Cel l a ∧ Cel h b ∧ Own wr w.heap.size (.int .i64 l) (.int .i64 h) ∧ Ext w wr) (fun e _ _ => (40001 - intOf e).toNat)
  case atStart => exact ⟨a0, b0, e0, m0, l0, h0, rfl, rfl, hi0, k0, k1, o0, hE⟩
  case round =>
    obtain ⟨a, b, E, mm, l, h, rfl, rfl, inv, ka, kb, p, hx⟩ := hrel
    clear o0 hE hi0 k0 k1
    have INV0 := Lib.hid inv
    have E1 := inv.e1
    have E2 := inv.e2
    clear inv
    have ua := ka.u64
    have ub := kb.u64
    have a1 := nat_low a
    have a2 := nat_high a ka.lt
    have b1 := nat_low b
    have b2 := nat_high b kb.lt
    have c0 := p.c0
    have c1 := p.c1
    have f0 := p.f0
    have f1 := p.f1
    have lt := p.lt
    obtain ⟨o, ho⟩ : ∃ o, (a % 2 == 1) = o := ⟨_, rfl⟩
    have oa := ka.odd o ho
    have HO := Lib.hid ho
    clear ho
    by_cases hbz : b = 0
    · have zb := kb.zero false (by rw [hbz]; rfl)
      have ob := kb.odd false (by rw [hbz]; rfl)
      have HBE := Lib.hid (even_of_zero hbz)
      have HBZ := Lib.hid hbz
      clear hbz
      by_cases hA : 18014398509481984 ≤ a
      · have hA' := le54 hA
        have HC := Lib.hid hA
        clear hA
        obtain ⟨x, y, inv2, hE4, hvx, hvy⟩ := cel_even INV0.out HP.out he (Or.inr (Or.inl HC.out)) o HO.out HBE.out
        have INV := Lib.hid inv2
        have VX := Lib.hid hvx
        have VY := Lib.hid hvy
        clear inv2 hvx hvy ka kb
        cases mm
        all_goals
          go_wp2
          go_roundw
          case rel => exact ⟨x, y, _, _, _, _, rfl, rfl, INV.out, VX.out, VY.out, p.set _ _, hx.set2 (Nat.le_refl _) _ _⟩
          case measure => simp [intOf]; omega
      · have hA' := nle54 hA
        have HN := Lib.hid hA
        clear hA
        by_cases hEE : E < -1075
        · have HC := Lib.hid hEE
          obtain ⟨x, y, inv2, hE4, hvx, hvy⟩ := cel_even INV0.out HP.out he (Or.inr (Or.inr HC.out)) o HO.out HBE.out
          have INV := Lib.hid inv2
          have VX := Lib.hid hvx
          have VY := Lib.hid hvy
          clear inv2 hvx hvy ka kb
          cases mm
          all_goals
            go_wp2
            go_roundw
            case rel => exact ⟨x, y, _, _, _, _, rfl, rfl, INV.out, VX.out, VY.out, p.set _ _, hx.set2 (Nat.le_refl _) _ _⟩
            case measure => simp [intOf]; omega
        · have ST := Lib.hid (INV0.out.stop HBZ.out (Nat.lt_of_not_le HN.out) (Int.not_lt.1 hEE))
          have hqb := half_bd HN.out
          have LO := Lib.hid (Int.not_lt.1 hEE)
          obtain ⟨q, hq⟩ : ∃ q : Nat, q = a / 2 := ⟨_, rfl⟩
          have eq2 : (a : Int) / 2 = (q : Int) := by rw [hq]; rfl
          have QB : q < 9007199254740992 := by rw [hq]; exact hqb
          have qi := int_bd QB
          have q0 := nat_low q
          have HQB := Lib.hid QB
          have HQ := Lib.hid hq
          clear QB hqb hq oa ob
          cases o
          · have oa2 := odd_test false HO.out
            have hm := inc_no a mm (Or.inl (by have := beq_eq_false_iff_ne.1 HO.out; omega))
            have HM := Lib.hid (hm.trans HQ.out.symm)
            clear hm
            by_cases k : 971 < E + 1
            · have WI := Lib.hid (way_inf RES.out ST.out HM.out HQB.out k)
              go_wp2_with (first | ((with_reducible refine (WI.out _).mono ?_); rintro e w1 ⟨rfl, rfl⟩))
              go_ret
              exact ⟨rfl, hx⟩
            · by_cases d : q < 4503599627370496
              · have WS := Lib.hid (way_sub RES.out ST.out HM.out (q : Int) rfl d (Int.not_lt.1 k))
                have dI := int_lo d
                clear d
                go_wp2_with (first | ((with_reducible refine (WS.out _).mono ?_); rintro e w1 ⟨rfl, rfl⟩))
                go_ret
                exact ⟨rfl, hx⟩
              · have WN := Lib.hid (way_norm RES.out ST.out HM.out (q : Int) rfl HQB.out d (Int.not_lt.1 k) LO.out)
                have dI := int_hi d
                clear d
                go_wp2_with (first | ((with_reducible refine (WN.out _).mono ?_); rintro e w1 ⟨rfl, rfl⟩))
                go_ret
                exact ⟨rfl, hx⟩
          · have oa2 := odd_test true HO.out
            cases mm
            · by_cases hq2 : q % 2 = 1
              · have oq := odd_test (a := q) true (by rw [hq2]; rfl)
                have hm := inc_yes a false (beq_iff_eq.1 HO.out) (Or.inr (by rw [← HQ.out]; exact hq2))
                have HM := Lib.hid (hm.trans (congrArg (· + 1) HQ.out.symm))
                clear hm hq2
                by_cases hc : q + 1 = 9007199254740992
                · have hci := carry_yes hc
                  have HM2 := Lib.hid (HM.out.trans hc)
                  clear hc HM qi
                  by_cases k : 971 < E + 1 + 1
                  · have WI := Lib.hid (way_cinf RES.out ST.out HM2.out k)
                    go_wp2_with (first | ((with_reducible refine (WI.out _).mono ?_); rintro e w1 ⟨rfl, rfl⟩))
                    go_ret
                    exact ⟨rfl, hx⟩
                  · have WN := Lib.hid (way_cnorm RES.out ST.out HM2.out (Int.not_lt.1 k) LO.out)
                    go_wp2_with (first | ((with_reducible refine (WN.out _).mono ?_); rintro e w1 ⟨rfl, rfl⟩))
                    go_ret
                    exact ⟨rfl, hx⟩
                · have CN := Lib.hid (carry_no HQB.out hc)
                  have cni := CN.out.2
                  clear hc
                  by_cases k : 971 < E + 1
                  · have WI := Lib.hid (way_inf RES.out ST.out HM.out CN.out.1 k)
                    go_wp2_with (first | ((with_reducible refine (WI.out _).mono ?_); rintro e w1 ⟨rfl, rfl⟩))
                    go_ret
                    exact ⟨rfl, hx⟩
                  · by_cases d : q + 1 < 4503599627370496
                    · have WS := Lib.hid (way_sub RES.out ST.out HM.out ((q : Int) + 1) (Int.natCast_add q 1) d (Int.not_lt.1 k))
                      have dI := int_lo1 d
                      clear d
                      go_wp2_with (first | ((with_reducible refine (WS.out _).mono ?_); rintro e w1 ⟨rfl, rfl⟩))
                      go_ret
                      exact ⟨rfl, hx⟩
                    · have WN := Lib.hid (way_norm RES.out ST.out HM.out ((q : Int) + 1) (Int.natCast_add q 1) CN.out.1 d (Int.not_lt.1 k) LO.out)
                      have dI := int_hi1 d
                      clear d
                      go_wp2_with (first | ((with_reducible refine (WN.out _).mono ?_); rintro e w1 ⟨rfl, rfl⟩))
                      go_ret
                      exact ⟨rfl, hx⟩
              · have oq := odd_test (a := q) false (beq_eq_false_iff_ne.2 hq2)
                have hm := inc_no a false (Or.inr ⟨rfl, by rw [← HQ.out]; omega⟩)
                have HM := Lib.hid (hm.trans HQ.out.symm)
                clear hm hq2
                by_cases k : 971 < E + 1
                · have WI := Lib.hid (way_inf RES.out ST.out HM.out HQB.out k)
                  go_wp2_with (first | ((with_reducible refine (WI.out _).mono ?_); rintro e w1 ⟨rfl, rfl⟩))
                  go_ret
                  exact ⟨rfl, hx⟩
                · by_cases d : q < 4503599627370496
                  · have WS := Lib.hid (way_sub RES.out ST.out HM.out (q : Int) rfl d (Int.not_lt.1 k))
                    have dI := int_lo d
                    clear d
                    go_wp2_with (first | ((with_reducible refine (WS.out _).mono ?_); rintro e w1 ⟨rfl, rfl⟩))
                    go_ret
                    exact ⟨rfl, hx⟩
                  · have WN := Lib.hid (way_norm RES.out ST.out HM.out (q : Int) rfl HQB.out d (Int.not_lt.1 k) LO.out)
                    have dI := int_hi d
                    clear d
                    go_wp2_with (first | ((with_reducible refine (WN.out _).mono ?_); rintro e w1 ⟨rfl, rfl⟩))
                    go_ret
                    exact ⟨rfl, hx⟩
            · have hm := inc_yes a true (beq_iff_eq.1 HO.out) (Or.inl rfl)
              have HM := Lib.hid (hm.trans (congrArg (· + 1) HQ.out.symm))
              clear hm
              by_cases hc : q + 1 = 9007199254740992
              · have hci := carry_yes hc
                have HM2 := Lib.hid (HM.out.trans hc)
                clear hc HM qi
                by_cases k : 971 < E + 1 + 1
                · have WI := Lib.hid (way_cinf RES.out ST.out HM2.out k)
                  go_wp2_with (first | ((with_reducible refine (WI.out _).mono ?_); rintro e w1 ⟨rfl, rfl⟩))
                  go_ret
                  exact ⟨rfl, hx⟩
                · have WN := Lib.hid (way_cnorm RES.out ST.out HM2.out (Int.not_lt.1 k) LO.out)
                  go_wp2_with (first | ((with_reducible refine (WN.out _).mono ?_); rintro e w1 ⟨rfl, rfl⟩))
                  go_ret
                  exact ⟨rfl, hx⟩
              · have CN := Lib.hid (carry_no HQB.out hc)
                have cni := CN.out.2
                clear hc
                by_cases k : 971 < E + 1
                · have WI := Lib.hid (way_inf RES.out ST.out HM.out CN.out.1 k)
                  go_wp2_with (first | ((with_reducible refine (WI.out _).mono ?_); rintro e w1 ⟨rfl, rfl⟩))
                  go_ret
                  exact ⟨rfl, hx⟩
                · by_cases d : q + 1 < 4503599627370496
                  · have WS := Lib.hid (way_sub RES.out ST.out HM.out ((q : Int) + 1) (Int.natCast_add q 1) d (Int.not_lt.1 k))
                    have dI := int_lo1 d
                    clear d
                    go_wp2_with (first | ((with_reducible refine (WS.out _).mono ?_); rintro e w1 ⟨rfl, rfl⟩))
                    go_ret
                    exact ⟨rfl, hx⟩
                  · have WN := Lib.hid (way_norm RES.out ST.out HM.out ((q : Int) + 1) (Int.natCast_add q 1) CN.out.1 d (Int.not_lt.1 k) LO.out)
                    have dI := int_hi1 d
                    clear d
                    go_wp2_with (first | ((with_reducible refine (WN.out _).mono ?_); rintro e w1 ⟨rfl, rfl⟩))
                    go_ret
                    exact ⟨rfl, hx⟩
    · have zb := kb.zero true (bne_iff_ne.2 hbz)
      have HC := Lib.hid hbz
      clear hbz
      rcases (show b % 2 = 0 ∨ b % 2 = 1 from Nat.mod_two_eq_zero_or_one b) with hbe | hbe
      · have ob := kb.odd false (by rw [hbe]; rfl)
        have HBE := Lib.hid hbe
        clear hbe
        obtain ⟨x, y, inv2, hE4, hvx, hvy⟩ := cel_even INV0.out HP.out he (Or.inl HC.out) o HO.out HBE.out
        have INV := Lib.hid inv2
        have VX := Lib.hid hvx
        have VY := Lib.hid hvy
        clear inv2 hvx hvy ka kb
        cases mm
        all_goals
          go_wp2
          go_roundw
          case rel => exact ⟨x, y, _, _, _, _, rfl, rfl, INV.out, VX.out, VY.out, p.set _ _, hx.set2 (Nat.le_refl _) _ _⟩
          case measure => simp [intOf]; omega
      · have ob := kb.odd true (by rw [hbe]; rfl)
        have HBE := Lib.hid hbe
        clear hbe
        obtain ⟨x, y, inv2, hE4, hvx, hvy⟩ := cel_odd INV0.out HP.out he (Or.inl HC.out) o HO.out HBE.out
        have INV := Lib.hid inv2
        have VX := Lib.hid hvx
        have VY := Lib.hid hvy
        clear inv2 hvx hvy ka kb
        cases mm
        all_goals
          go_wp2
          go_roundw
          case rel => exact ⟨x, y, _, _, _, _, rfl, rfl, INV.out, VX.out, VY.out, p.set _ _, hx.set2 (Nat.le_refl _) _ _⟩
          case measure => simp [intOf]; omega
end Go.Proofs.YthmdobajilladaaDoor
