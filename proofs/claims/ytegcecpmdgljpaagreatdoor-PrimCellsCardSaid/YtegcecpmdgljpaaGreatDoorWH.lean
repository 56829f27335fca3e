/- The document's quotients of real numbers. Condition: the parts are of the format. -/
import Derived.Test.YtegcecpmdgljpaaGreatDoorWG
import Derived.Test.YtegcecpmdgljpaaGreatDoorMGY
namespace Go.Proofs.YtegcecpmdgljpaaGreatDoor
open Go.RowKit
set_option linter.unusedVariables false
open Ieee (double)

/-- Quotients that are told at once. -/
def quoR (z i x : Bool) : Int := if z then 9221120237041090560 else if i then cellOf (double.word x 9218868437227405312) else cellOf (double.word x 0)
theorem rsigned_z (s : Bool) (w : World) : Calls Tryz.prog 84 #[.bool s, .int .u64 0] w fun e w' => e = .returned (.int .i64 (cellOf (double.word s 0))) ∧ w = w' := by
  rw [← cell_word s 0 (by decide)]
  exact rsigned4 s 0 (by decide) (by decide) w
set_option maxHeartbeats 4000000 in
set_option maxRecDepth 100000 in
theorem rquo_i (ka kb : Int) (s t : Bool) (m : Nat) (e : Int) (n : Nat) (j : Int) (z i : Bool) (key : (ka = 1 ∧ kb = 1 ∧ z = true) ∨ (ka = 1 ∧ kb = 2 ∧ ((n : Int) == 0) = true ∧ z = false ∧ i = true) ∨ (ka = 1 ∧ kb = 2 ∧ ((n : Int) == 0) = false ∧ z = false ∧ i = true) ∨ (ka = 2 ∧ kb = 1 ∧ z = false ∧ i = false) ∨ (ka = 2 ∧ kb = 2 ∧ ((n : Int) == 0) = true ∧ ((m : Int) == 0) = true ∧ z = true) ∨ (ka = 2 ∧ kb = 2 ∧ ((n : Int) == 0) = true ∧ ((m : Int) == 0) = false ∧ z = false ∧ i = true)) (w : World) :
    Calls Tryz.prog 62 #[prtg ka s m e, prtg kb t n j] w fun e w' => e = .returned (.int .i64 (quoR z i (s ^^ t))) ∧ Ext w w' := by
  have X : ∀ a b : Array Value, Ext w ((w.alloc (.cells a 111)).alloc (.cells b 111)) := fun a b => ((Ext.refl w).cells _ _).cells _ _
  have HX := Lib.hid X
  have HF := Lib.hid (rinf4 false)
  have HT := Lib.hid (rinf4 true)
  have GF := Lib.hid (rsigned_z false)
  have GT := Lib.hid (rsigned_z true)
  have ef : ∀ x, quoR false true x = cellOf (double.word x 9218868437227405312) := fun x => by unfold quoR; rw [if_neg Bool.false_ne_true, if_pos rfl]
  have eg : ∀ x, quoR false false x = cellOf (double.word x 0) := fun x => by unfold quoR; rw [if_neg Bool.false_ne_true, if_neg Bool.false_ne_true]
  rw [← ef] at HF HT
  rw [← eg] at GF GT
  clear X ef eg
  rcases key with ⟨rfl, rfl, rfl⟩ | ⟨rfl, rfl, hn, rfl, rfl⟩ | ⟨rfl, rfl, hn, rfl, rfl⟩ | ⟨rfl, rfl, rfl, rfl⟩ | ⟨rfl, rfl, hn, hm, rfl⟩ | ⟨rfl, rfl, hn, hm, rfl, rfl⟩ <;> cases s <;> cases t <;>
    (go_enter Tryz.func62, Tryz.ntmps62
     go_wp2_with (first | ((with_reducible refine (HF.out _).mono ?_); rintro e' w' ⟨rfl, rfl⟩) | ((with_reducible refine (HT.out _).mono ?_); rintro e' w' ⟨rfl, rfl⟩) | ((with_reducible refine (GF.out _).mono ?_); rintro e' w' ⟨rfl, rfl⟩) | ((with_reducible refine (GT.out _).mono ?_); rintro e' w' ⟨rfl, rfl⟩))
     go_ret
     exact ⟨rfl, HX.out _ _⟩)
theorem udivN (R y : Nat) (hR : R < y) (hy : y < 9007199254740992) : ∀ W, Calls Tryz.prog 36 #[.agg #[.int .i64 0, .int .i64 (R : Int)], .int .i64 (y : Int)] W fun e w' => e = .returned (.tuple #[.int .i64 ((R * 18446744073709551616 % y : Nat) : Int), .int .i64 (lo ((R * 18446744073709551616 / y : Nat) : Int)), .int .i64 0]) ∧ Ext W w' := fun W => by
  have := rudiv_calls W 0 (R : Int) (y : Int) zero_i64 (by unfold I64; omega) (by unfold I64; omega) W (Ext.refl W)
  have e1 : Go.Proofs.YtegcecpmdgljpaaGreatDoor.W 0 (R : Int) = ((R * 18446744073709551616 : Nat) : Int) := by unfold Go.Proofs.YtegcecpmdgljpaaGreatDoor.W U; omega
  have e2 : U (y : Int) = (y : Int) := by unfold U; omega
  have e3 : ((y : Int) == 0) = false := beq_eq_false_iff_ne.2 (by omega)
  have hq : R * 18446744073709551616 / y ≤ 18446744073709551615 := by
    have : R * 18446744073709551616 / y < 18446744073709551616 := Nat.div_lt_of_lt_mul (by rw [Nat.mul_comm y]; rw [Nat.mul_comm]; exact (Nat.mul_lt_mul_left (by decide)).2 hR)
    omega
  have hl : R * 18446744073709551616 % y < y := Nat.mod_lt _ (by omega)
  rw [e1, e2, ← Int.natCast_ediv, ← Int.natCast_emod, e3, decide_eq_true (show ((R * 18446744073709551616 / y : Nat) : Int) ≤ 18446744073709551615 by omega)] at this
  unfold okR okE at this
  simp only [Bool.false_eq_true, if_false, if_true] at this
  rw [show wrap64 ((R * 18446744073709551616 % y : Nat) : Int) = ((R * 18446744073709551616 % y : Nat) : Int) by unfold wrap64; omega] at this
  exact this
theorem quo_rnd (s : Bool) (m n : Nat) (hm : m < 9007199254740992) (hn : n < 9007199254740992) (hn0 : n ≠ 0) (e1 e2 : Int) (l1 : -1074 ≤ e1) (u1 : e1 ≤ 971) (l2 : -1074 ≤ e2) (u2 : e2 ≤ 971) (x y k : Nat) (E F : Int) (hk : k = if m = 0 then 0 else upK m) (hx : x = m * 2 ^ k) (hy : y = n * 2 ^ upK n) (hE : E = e1 - (k : Int)) (hF : F = e2 - (upK n : Int)) :
    RndN s (lo ((x % y * 18446744073709551616 / y : Nat) : Int)) ((x / y : Nat) : Int) (E - F - 64) (decide (x % y * 18446744073709551616 % y ≠ 0)) (cellOf (double.nearest s (divN m n) (divP m e1 n e2))) := fun W => by
  by_cases h0 : m = 0
  · have x0 : x = 0 := by rw [hx, h0, Nat.zero_mul]
    have d0 : divN m n = 0 := by rw [h0]; unfold divN; simp
    rw [d0, nearest_zero, x0, Nat.zero_mod, Nat.zero_mul, Nat.zero_div]
    have e3 : lo (((0 : Nat) : Int)) = 0 := by unfold lo wrap64; omega
    rw [e3]
    have e4 : ((0 : Nat) : Int) = 0 := rfl
    rw [e4]
    exact rrounded_zero s _ _ W
  · rw [if_neg h0] at hk
    subst hk
    obtain ⟨p1, p2⟩ := bigQ_parts h0 hm hn0 hn
    rw [← hx, ← hy] at p1 p2
    have hb := bigQ_lt h0 hm hn0 hn
    have hbig := (quo_rel h0 hm hn0 hn e1 e2).1
    have hne : bigQ m n ≠ 0 := by
      intro z
      rw [z] at hbig
      simp at hbig
    have hyt := upK_top hn0 hn
    have hxt := upK_top h0 hm
    rw [← hx] at hxt
    rw [← hy] at hyt
    have hu1 : upK m ≤ 52 := by unfold upK; omega
    have hu2 : upK n ≤ 52 := by unfold upK; omega
    have hR : x % y < y := Nat.mod_lt _ (by omega)
    have hq : x % y * 18446744073709551616 / y < 18446744073709551616 := Nat.div_lt_of_lt_mul (by rw [Nat.mul_comm y]; rw [Nat.mul_comm]; exact (Nat.mul_lt_mul_left (by decide)).2 hR)
    have hD : x / y ≤ x := Nat.div_le_self _ _
    have := rrounded2 s (decide (x % y * 18446744073709551616 % y ≠ 0)) (bigQ m n) hne hb (E - F - 64) (by omega) _ _ ⟨hb, rfl, rfl⟩ W
    have e1' : lo ((bigQ m n : Nat) : Int) = lo ((x % y * 18446744073709551616 / y : Nat) : Int) := by
      rw [p1]
      generalize x % y * 18446744073709551616 / y = q at *
      generalize x / y = d at *
      unfold lo wrap64
      omega
    have e2' : hi ((bigQ m n : Nat) : Int) = ((x / y : Nat) : Int) := by
      rw [p1]
      generalize x % y * 18446744073709551616 / y = q at *
      generalize x / y = d at *
      unfold hi wrap64
      omega
    rw [e1', e2'] at this
    have near := quo_near s h0 hm hn0 hn e1 e2
    rw [← hx, ← hy, ← p2, ← hE, ← hF] at near
    rw [near] at this
    exact this
set_option maxHeartbeats 8000000 in
set_option maxRecDepth 100000 in
theorem rquo_f (s : Bool) (m : Nat) (e1 : Int) (t : Bool) (n : Nat) (e2 : Int) (hm : m < 9007199254740992) (hn : n < 9007199254740992) (hn0 : n ≠ 0) (l1 : -1074 ≤ e1) (u1 : e1 ≤ 971) (l2 : -1074 ≤ e2) (u2 : e2 ≤ 971) (w : World) :
    Calls Tryz.prog 62 #[prtg 2 s m e1, prtg 2 t n e2] w fun e w' => e = .returned (.int .i64 (cellOf (double.nearest (s ^^ t) (divN m n) (divP m e1 n e2)))) ∧ Ext w w' := by
  have hnz : ((n : Int) == 0) = false := beq_eq_false_iff_ne.2 (by omega)
  have HN := Lib.hid (And.intro hn0 hn)
  have HM := Lib.hid hm
  have bm : (m : Int) < 9007199254740992 := by omega
  have bn : (n : Int) < 9007199254740992 := by omega
  have hun : upK n ≤ 52 := by unfold upK; omega
  have hum : upK m ≤ 52 := by unfold upK; omega
  clear hn0 hn hm
  have pb : P4 ((w.alloc (.cells #[.int .i64 2, .bool s, .int .u64 (m : Int), .int .i64 e1] 111)).alloc (.cells #[.int .i64 2, .bool t, .int .u64 (n : Int), .int .i64 e2] 111)) (w.heap.size + 1) t n e2 := by
    have := P4.last (X := w.alloc (.cells #[.int .i64 2, .bool s, .int .u64 (m : Int), .int .i64 e1] 111)) (n := t) (m := n) (e := e2) (t := 111)
    rw [size_alloc] at this
    exact this
  have xa : Ext (w.alloc (.cells #[.int .i64 2, .bool s, .int .u64 (m : Int), .int .i64 e1] 111)) ((w.alloc (.cells #[.int .i64 2, .bool s, .int .u64 (m : Int), .int .i64 e1] 111)).alloc (.cells #[.int .i64 2, .bool t, .int .u64 (n : Int), .int .i64 e2] 111)) := (Ext.refl _).cells _ _
  have pa := (P4.last (X := w) (n := s) (m := m) (e := e1) (t := 111)).ext xa
  have hx := ((Ext.refl w).cells #[.int .i64 2, .bool s, .int .u64 (m : Int), .int .i64 e1] 111).trans xa
  obtain ⟨W, hW⟩ : ∃ V, V = (w.alloc (.cells #[.int .i64 2, .bool s, .int .u64 (m : Int), .int .i64 e1] 111)).alloc (.cells #[.int .i64 2, .bool t, .int .u64 (n : Int), .int .i64 e2] 111) := ⟨_, rfl⟩
  rw [← hW] at pa pb hx
  obtain ⟨A, hA⟩ : ∃ A, A = w.heap.size := ⟨_, rfl⟩
  obtain ⟨B, hB⟩ : ∃ B, B = w.heap.size + 1 := ⟨_, rfl⟩
  rw [← hA] at pa
  rw [← hB] at pb
  have hAB : A ≠ B := by omega
  have hBA : B ≠ A := by omega
  obtain ⟨res, hres⟩ : ∃ r, r = cellOf (double.nearest (s ^^ t) (divN m n) (divP m e1 n e2)) := ⟨_, rfl⟩
  rw [← hres]
  have RES := Lib.hid hres
  have HP := Lib.hid (And.intro pa (And.intro pb hx))
  have a0 := pa.c0
  have a1 := pa.c1
  have a2 := pa.c2
  have a3 := pa.c3
  have fa := pa.f
  have la := pa.lt
  have d0 := pb.c0
  have d1 := pb.c1
  have d2 := pb.c2
  have d3 := pb.c3
  have fb := pb.f
  have lb := pb.lt
  have HX := Lib.hid hx
  have HGE := Lib.hid (show w.heap.size ≤ A ∧ w.heap.size ≤ B by omega)
  clear xa pa pb hres
  go_enter Tryz.func62, Tryz.ntmps62
  go_upto_region 1 with fail
  rw [← hW, ← hB, ← hA]
  clear hW hA hB
  obtain ⟨sx, hsx⟩ : ∃ x, x = (s ^^ t) := ⟨_, rfl⟩
  rw [← hsx] at RES
  have hneg : (s != t) = sx := by rw [hsx]; try (cases s <;> cases t <;> rfl)
  have hneg2 : (s == t) = !sx := by rw [hsx]; try (cases s <;> cases t <;> rfl)
  clear hsx
  have HAP := Lib.hid (And.intro hAB hBA)
  go_wp2_with fail
  have H0 := Lib.hid (show P4 W A s m e1 ∧ P4 W B t (n * 2 ^ 0) e2 ∧ Ext w W by rw [Nat.pow_zero, Nat.mul_one]; exact HP.out)
  clear a0 a1 a2 a3 fa la d0 d1 d2 d3 fb lb HP HX
  go_loopw [] (fun wr => ∃ (k y : Nat) (F : Int), k ≤ upK n ∧ RowKit.Hid (F = e2 - (k : Int) ∧ y = n * 2 ^ k) ∧ RowKit.Hid (P4 wr A s m e1 ∧ P4 wr B t y F ∧ Ext w wr)) (fun wr => (eAt wr B + 2000).toNat)
  case atStart => exact ⟨0, _, _, Nat.zero_le _, Lib.hid ⟨by simp, rfl⟩, H0⟩
  case round =>
    obtain ⟨k, y, F, hk, HE, HJ⟩ := hrel
    clear H0
    have a0 := HJ.out.1.c0
    have a1 := HJ.out.1.c1
    have a2 := HJ.out.1.c2
    have a3 := HJ.out.1.c3
    have fa := HJ.out.1.f
    have la := HJ.out.1.lt
    have d0 := HJ.out.2.1.c0
    have d1 := HJ.out.2.1.c1
    have d2 := HJ.out.2.1.c2
    have d3 := HJ.out.2.1.c3
    have fb := HJ.out.2.1.f
    have lb := HJ.out.2.1.lt
    by_cases hlt : k < upK n
    · have hy0 : y < 4503599627370496 := by rw [HE.out.2]; exact (upK_lt HN.out.1 HN.out.2 k).2 hlt
      have hy : (y : Int) < 4503599627370496 := by omega
      have hF : wrap64 (F - 1) = F - 1 := by have := HE.out.1; unfold wrap64; omega
      have hy2 : IntKind.u64.wrap ((y : Int) * 2) = ((y * 2 : Nat) : Int) := by rw [IntKind.wrap_u64]; omega
      have HE2 := Lib.hid (show F - 1 = e2 - ((k + 1 : Nat) : Int) ∧ y * 2 = n * 2 ^ (k + 1) from ⟨by have := HE.out.1; omega, by rw [HE.out.2, Nat.pow_succ, Nat.mul_assoc]⟩)
      have hlo : -1200 ≤ F := by have := HE.out.1; omega
      clear hy0
      go_wp2_with fail
      have H3 := ((HJ.out.2.1.setM (y * 2)).setE (F - 1))
      rw [show ((y * 2 : Nat) : Int) = (y : Int) * 2 by omega] at H3
      have H4 := ((HJ.out.1.other HAP.out.1 2 (.int .u64 ((y : Int) * 2))).other HAP.out.1 3 (.int .i64 (F - 1)))
      have H5 := ((HJ.out.2.2.setCell (p := ⟨B, 2, none⟩) HGE.out.2 (.int .u64 ((y : Int) * 2))).setCell (p := ⟨B, 3, none⟩) HGE.out.2 (.int .i64 (F - 1)))
      go_roundw
      case rel => exact ⟨k + 1, y * 2, F - 1, hlt, HE2, Lib.hid ⟨H4, H3, H5⟩⟩
      case measure =>
        rw [H3.eAt, HJ.out.2.1.eAt]
        omega
    · obtain rfl : k = upK n := by omega
      have hyt := upK_top HN.out.1 HN.out.2
      rw [← HE.out.2] at hyt
      have hy1 : ¬ (y : Int) < 4503599627370496 := by omega
      have hy3 : (y : Int) < 9007199254740992 := by omega
      have hFb : -1200 ≤ F ∧ F ≤ 971 := by have := HE.out.1; omega
      obtain ⟨hF1, hF2⟩ := hFb
      have HYT := Lib.hid hyt
      have HFE := Lib.hid HE.out
      clear hyt hlt hk HE
      go_wp2_with fail
      obtain ⟨K, hK⟩ : ∃ K, K = if m = 0 then 0 else upK m := ⟨_, rfl⟩
      have HK := Lib.hid hK
      have hKu : K ≤ 52 := by rw [hK]; split <;> omega
      have H0 := Lib.hid (show P4 wr A s (m * 2 ^ 0) e1 ∧ P4 wr B t y F ∧ Ext w wr by rw [Nat.pow_zero, Nat.mul_one]; exact HJ.out)
      clear a0 a1 a2 a3 fa la d0 d1 d2 d3 fb lb hK HJ hx
      go_loopw [] (fun wr => ∃ (k x : Nat) (E : Int), k ≤ K ∧ RowKit.Hid (E = e1 - (k : Int) ∧ x = m * 2 ^ k) ∧ RowKit.Hid (P4 wr A s x E ∧ P4 wr B t y F ∧ Ext w wr)) (fun wr => (eAt wr A + 2000).toNat)
      case atStart => exact ⟨0, _, _, Nat.zero_le _, Lib.hid ⟨by simp, rfl⟩, H0⟩
      case round =>
        obtain ⟨k, x, E, hk, HE, HJ⟩ := hrel
        clear H0
        have a0 := HJ.out.1.c0
        have a1 := HJ.out.1.c1
        have a2 := HJ.out.1.c2
        have a3 := HJ.out.1.c3
        have fa := HJ.out.1.f
        have la := HJ.out.1.lt
        have d0 := HJ.out.2.1.c0
        have d1 := HJ.out.2.1.c1
        have d2 := HJ.out.2.1.c2
        have d3 := HJ.out.2.1.c3
        have fb := HJ.out.2.1.f
        have lb := HJ.out.2.1.lt
        by_cases hlt : k < K
        · have hm0 : m ≠ 0 := fun z => by have := HK.out; rw [if_pos z] at this; omega
          have hKm : K = upK m := by have := HK.out; rw [if_neg hm0] at this; exact this
          have hx0 : x < 4503599627370496 := by rw [HE.out.2]; exact (upK_lt hm0 HM.out k).2 (by omega)
          have hx1 : x ≠ 0 := by rw [HE.out.2]; exact Nat.mul_ne_zero hm0 (pow_ne k)
          have hxl : (x : Int) < 4503599627370496 := by omega
          have hxz : ((x : Int) != 0) = true := bne_iff_ne.2 (by omega)
          have hxz2 : ((x : Int) == 0) = false := beq_eq_false_iff_ne.2 (by omega)
          have hF : wrap64 (E - 1) = E - 1 := by have := HE.out.1; unfold wrap64; omega
          have hy2 : IntKind.u64.wrap ((x : Int) * 2) = (x : Int) * 2 := by rw [IntKind.wrap_u64]; omega
          have HE2 := Lib.hid (show E - 1 = e1 - ((k + 1 : Nat) : Int) ∧ x * 2 = m * 2 ^ (k + 1) from ⟨by have := HE.out.1; omega, by rw [HE.out.2, Nat.pow_succ, Nat.mul_assoc]⟩)
          have hlo : -1200 ≤ E := by have := HE.out.1; omega
          clear hx0 hx1 hm0 hKm
          go_wp2_with fail
          have H3 := ((HJ.out.1.setM (x * 2)).setE (E - 1))
          rw [show ((x * 2 : Nat) : Int) = (x : Int) * 2 by omega] at H3
          have H4 := ((HJ.out.2.1.other HAP.out.2 2 (.int .u64 ((x : Int) * 2))).other HAP.out.2 3 (.int .i64 (E - 1)))
          have H5 := ((HJ.out.2.2.setCell (p := ⟨A, 2, none⟩) HGE.out.1 (.int .u64 ((x : Int) * 2))).setCell (p := ⟨A, 3, none⟩) HGE.out.1 (.int .i64 (E - 1)))
          go_roundw
          case rel => exact ⟨k + 1, x * 2, E - 1, hlt, HE2, Lib.hid ⟨H3, H4, H5⟩⟩
          case measure =>
            rw [H3.eAt, HJ.out.1.eAt]
            omega
        · obtain rfl : k = K := by omega
          have hxx : ((x : Int) != 0) = false ∨ (((x : Int) != 0) = true ∧ ¬ (x : Int) < 4503599627370496) := by
            by_cases hm0 : m = 0
            · left; rw [HE.out.2, hm0, Nat.zero_mul]; rfl
            · right
              have hKm : k = upK m := by have := HK.out; rw [if_neg hm0] at this; exact this
              have h := (upK_top hm0 HM.out).1
              rw [← hKm, ← HE.out.2] at h
              exact ⟨bne_iff_ne.2 (by omega), by omega⟩
          have hx3 : x < 9007199254740992 := by
            by_cases hm0 : m = 0
            · rw [HE.out.2, hm0]; omega
            · have hKm : k = upK m := by have := HK.out; rw [if_neg hm0] at this; exact this
              have h := (upK_top hm0 HM.out).2
              rw [← hKm, ← HE.out.2] at h
              exact h
          have hEb : -1200 ≤ E ∧ E ≤ 971 := by have := HE.out.1; omega
          obtain ⟨hE1, hE2⟩ := hEb
          have hx := HJ.out.2.2
          have hrn := quo_rnd sx m n HM.out HN.out.2 HN.out.1 e1 e2 l1 u1 l2 u2 x y k E F HK.out HE.out.2 HFE.out.2 HE.out.1 HFE.out.1
          rw [← RES.out] at hrn
          have hy0 : 0 < y := by have := HYT.out; omega
          have hRl : x % y < y := Nat.mod_lt _ hy0
          have hDl : x / y ≤ x := Nat.div_le_self _ _
          have hud := udivN (x % y) y hRl HYT.out.2
          obtain ⟨R, hR⟩ : ∃ R, R = x % y := ⟨_, rfl⟩
          obtain ⟨D, hD⟩ : ∃ D, D = x / y := ⟨_, rfl⟩
          have r1 : (x : Int).tmod (y : Int) = (R : Int) := by rw [hR, Int.natCast_emod]; exact Int.tmod_eq_emod_of_nonneg (by omega)
          have r2 : (x : Int) % (y : Int) = (R : Int) := by rw [hR, Int.natCast_emod]
          have r3 : (x : Int).tdiv (y : Int) = (D : Int) := by rw [hD, Int.natCast_ediv]; exact Int.tdiv_eq_ediv_of_nonneg (by omega)
          have r4 : (x : Int) / (y : Int) = (D : Int) := by rw [hD, Int.natCast_ediv]
          have v1 : IntKind.i64.wrap (R : Int) = (R : Int) := IntWalk.i64_in _ (by omega)
          have v2 : IntKind.i64.wrap (y : Int) = (y : Int) := IntWalk.i64_in _ (by omega)
          have v3 : IntKind.i64.wrap (D : Int) = (D : Int) := IntWalk.i64_in _ (by omega)
          have v4 : IntKind.i64.wrap (E - F) = E - F := IntWalk.i64_in _ (by omega)
          have v5 : IntKind.i64.wrap (E - F - 64) = E - F - 64 := IntWalk.i64_in _ (by omega)
          have v6 : IntKind.u64.wrap (R : Int) = (R : Int) := by rw [IntKind.wrap_u64]; omega
          have v7 : IntKind.u64.wrap (D : Int) = (D : Int) := by rw [IntKind.wrap_u64]; omega
          have yz : ((y : Int) == 0) = false := beq_eq_false_iff_ne.2 (by omega)
          have yz3 : ¬ (y : Int) = 0 := by omega
          have yz4 : ¬ y = 0 := by omega
          have r5 : x % y = R := hR.symm
          have r6 : x / y = D := hD.symm
          rw [r5] at hud hrn
          rw [r6] at hrn
          obtain ⟨L, hL⟩ : ∃ L, L = ((R * 18446744073709551616 % y : Nat) : Int) := ⟨_, rfl⟩
          obtain ⟨mo, hmo⟩ : ∃ b, b = decide (R * 18446744073709551616 % y ≠ 0) := ⟨_, rfl⟩
          have hmo2 : (L != 0) = mo := by
            rw [hmo, hL, Bool.eq_iff_iff, bne_iff_ne, decide_eq_true_eq]
            omega
          have hmo3 : (L == 0) = !mo := by rw [← hmo2]; simp [bne]
          obtain ⟨Q, hQ⟩ : ∃ Q, Q = lo ((R * 18446744073709551616 / y : Nat) : Int) := ⟨_, rfl⟩
          rw [← hL, ← hQ] at hud
          rw [← hmo, ← hQ] at hrn
          have hS : ∀ W W', Ext W W' → (fun W => (W.cell? ⟨A, 2, none⟩ = some (.int .u64 (x : Int)) ∧ W.cell? ⟨A, 3, none⟩ = some (.int .i64 E) ∧ W.cell? ⟨B, 2, none⟩ = some (.int .u64 (y : Int)) ∧ W.cell? ⟨B, 3, none⟩ = some (.int .i64 F)) ∧ Ext w W) W → (fun W => (W.cell? ⟨A, 2, none⟩ = some (.int .u64 (x : Int)) ∧ W.cell? ⟨A, 3, none⟩ = some (.int .i64 E) ∧ W.cell? ⟨B, 2, none⟩ = some (.int .u64 (y : Int)) ∧ W.cell? ⟨B, 3, none⟩ = some (.int .i64 F)) ∧ Ext w W) W' := fun W W' hx h => ⟨⟨ext_keeps hx h.1.1, ext_keeps hx h.1.2.1, ext_keeps hx h.1.2.2.1, ext_keeps hx h.1.2.2.2⟩, h.2.trans hx⟩
          have HUD := Lib.hid (show ∀ W, (W.cell? ⟨A, 2, none⟩ = some (.int .u64 (x : Int)) ∧ W.cell? ⟨A, 3, none⟩ = some (.int .i64 E) ∧ W.cell? ⟨B, 2, none⟩ = some (.int .u64 (y : Int)) ∧ W.cell? ⟨B, 3, none⟩ = some (.int .i64 F)) ∧ Ext w W → Calls Tryz.prog 36 #[.agg #[.int .i64 0, .int .i64 (R : Int)], .int .i64 (y : Int)] W (fun e w' => e = .returned (.tuple #[.int .i64 L, .int .i64 Q, .int .i64 0]) ∧ ((w'.cell? ⟨A, 2, none⟩ = some (.int .u64 (x : Int)) ∧ w'.cell? ⟨A, 3, none⟩ = some (.int .i64 E) ∧ w'.cell? ⟨B, 2, none⟩ = some (.int .u64 (y : Int)) ∧ w'.cell? ⟨B, 3, none⟩ = some (.int .i64 F)) ∧ Ext w w')) from held_call (fun W => (W.cell? ⟨A, 2, none⟩ = some (.int .u64 (x : Int)) ∧ W.cell? ⟨A, 3, none⟩ = some (.int .i64 E) ∧ W.cell? ⟨B, 2, none⟩ = some (.int .u64 (y : Int)) ∧ W.cell? ⟨B, 3, none⟩ = some (.int .i64 F)) ∧ Ext w W) hS hud)
          have HR := Lib.hid (show ∀ W, (W.cell? ⟨A, 2, none⟩ = some (.int .u64 (x : Int)) ∧ W.cell? ⟨A, 3, none⟩ = some (.int .i64 E) ∧ W.cell? ⟨B, 2, none⟩ = some (.int .u64 (y : Int)) ∧ W.cell? ⟨B, 3, none⟩ = some (.int .i64 F)) ∧ Ext w W → Calls Tryz.prog 82 #[.bool sx, .agg #[.int .i64 Q, .int .i64 (D : Int)], .int .i64 (E - F - 64), .bool mo] W (fun e w' => e = .returned (.int .i64 res) ∧ ((w'.cell? ⟨A, 2, none⟩ = some (.int .u64 (x : Int)) ∧ w'.cell? ⟨A, 3, none⟩ = some (.int .i64 E) ∧ w'.cell? ⟨B, 2, none⟩ = some (.int .u64 (y : Int)) ∧ w'.cell? ⟨B, 3, none⟩ = some (.int .i64 F)) ∧ Ext w w')) from held_call (fun W => (W.cell? ⟨A, 2, none⟩ = some (.int .u64 (x : Int)) ∧ W.cell? ⟨A, 3, none⟩ = some (.int .i64 E) ∧ W.cell? ⟨B, 2, none⟩ = some (.int .u64 (y : Int)) ∧ W.cell? ⟨B, 3, none⟩ = some (.int .i64 F)) ∧ Ext w W) hS hrn)
          clear hlt hk hS hud hrn hR hD hL hmo hQ hRl hDl hy0
          rcases hxx with hxx | ⟨hxx, hxy⟩
          all_goals
            go_wp2_with fail
            go_region_held3 (fun W => (W.cell? ⟨A, 2, none⟩ = some (.int .u64 (x : Int)) ∧ W.cell? ⟨A, 3, none⟩ = some (.int .i64 E) ∧ W.cell? ⟨B, 2, none⟩ = some (.int .u64 (y : Int)) ∧ W.cell? ⟨B, 3, none⟩ = some (.int .i64 F)) ∧ Ext w W) (first | exact ⟨⟨a2, a3, d2, d3⟩, hx⟩ | exact ⟨⟨a2, a3, d2, d3⟩, hx.drew⟩ | exact hy | assumption)
              (first | (go_at_call 36; (with_reducible refine (HUD.out _ ?_).mono ?_); assumption; rintro e w' ⟨rfl, hy⟩))
            all_goals
              go_wp2_with fail
              go_region_held3 (fun W => (W.cell? ⟨A, 2, none⟩ = some (.int .u64 (x : Int)) ∧ W.cell? ⟨A, 3, none⟩ = some (.int .i64 E) ∧ W.cell? ⟨B, 2, none⟩ = some (.int .u64 (y : Int)) ∧ W.cell? ⟨B, 3, none⟩ = some (.int .i64 F)) ∧ Ext w W) (first | exact hy | exact ⟨hy.1, hy.2.drew⟩ | exact hz | assumption)
                (first | (go_at_call 82; (with_reducible refine (HR.out _ ?_).mono ?_); assumption; rintro e w' ⟨rfl, hz⟩))
              all_goals
                go_wp2_with fail
                go_ret
                exact ⟨rfl, hz.2⟩
end Go.Proofs.YtegcecpmdgljpaaGreatDoor
