/- Layer 2: bits.Div64, by Knuth's long division. Condition: the high word is less than the divisor. -/
import Derived.Deep.DeepCutAuto
import Derived.Deep.CutBlock
import Derived.Test.YtifnkmddinoneaaGreatDoorCBBG
import Derived.Test.YtifnkmddinoneaaGreatDoorCBBI
import Derived.Test.YtifnkmddinoneaaGreatDoorCBAB
set_option maxRecDepth 100000
namespace Go.Proofs.YtifnkmddinoneaaGreatDoor
open Go.RowKit
set_option linter.unusedVariables false
theorem div64_zero (w0 : World) (L Y : Nat) (hl : L < 18446744073709551616) (hy : Y < 18446744073709551616) (hp : 0 < Y) (w : World) (h : Ext w0 w) :
    Calls Tryz.prog 325 #[.int .u64 0, .int .u64 (L : Int), .int .u64 (Y : Int)] w fun e w' => e = .returned (.tuple #[.int .u64 ((L / Y : Nat) : Int), .int .u64 ((L % Y : Nat) : Int)]) ∧ Ext w0 w' := by
  have z1 : ((Y : Int) == 0) = false := by simp; omega
  have hp1 : ¬ (Y : Int) ≤ 0 := by omega
  have b1 : (L : Int) ≤ 18446744073709551615 := by omega
  have b2 : (Y : Int) ≤ 18446744073709551615 := by omega
  have b3 : (1 : Int) ≤ Y := by omega
  have b4 : (0 : Int) ≤ L := by omega
  have eq : IntKind.u64.wrap ((L : Int) / (Y : Int)) = ((L / Y : Nat) : Int) := by
    rw [← Int.natCast_ediv]
    exact u64_nat _ _ (Nat.mod_eq_of_lt (Nat.lt_of_le_of_lt (Nat.div_le_self _ _) hl))
  have er : (L : Int) % (Y : Int) = ((L % Y : Nat) : Int) := by rw [Int.natCast_emod]
  obtain ⟨q, hq⟩ : ∃ q, q = L / Y := ⟨_, rfl⟩
  obtain ⟨r, hr⟩ : ∃ r, r = L % Y := ⟨_, rfl⟩
  rw [← hq] at eq ⊢
  rw [← hr] at er ⊢
  clear hl hy hq hr
  go_enter Tryz.func325, Tryz.ntmps325
  go_wp2_with fail
  go_region
  go_wp2
  go_ret2
  refine ⟨?_, h.drew⟩
  show Ending.returned (.tuple #[.int .u64 (q : Int), .int .u64 ((L : Int) % (Y : Int))]) = _
  rw [er]
theorem lz_calls (Y s : Nat) (hy : Y < 18446744073709551616) (hs : 64 - (Lib.bitLen Y : Int) = s) (w : World) : Calls Tryz.prog 345 #[.int .u64 (Y : Int)] w fun e w' => e = .returned (.int .i64 (s : Int)) ∧ w = w' := by
  refine (Tryz.bits_LeadingZeros64 (Y : Int) w (by omega) (by omega)).mono ?_
  rintro e w' ⟨rfl, rfl⟩
  rw [Int.toNat_natCast, hs]
  exact ⟨rfl, rfl⟩
theorem guess_test (Q y0 R d : Nat) (hQ : Q < 4294967296) (h0 : y0 < 4294967296) (hR : R < 4294967296) (hd : d < 4294967296) :
    ∃ P R1 R2 : Nat, IntKind.u64.wrap ((Q : Int) * (y0 : Int)) = (P : Int) ∧ IntKind.u64.wrap (4294967296 * (R : Int)) = (R1 : Int) ∧ IntKind.u64.wrap ((R1 : Int) + (d : Int)) = (R2 : Int) ∧ P = Q * y0 ∧ R2 = 4294967296 * R + d := by
  have h : Q * y0 < 4294967296 * 4294967296 := Nat.mul_lt_mul'' hQ h0
  refine ⟨Q * y0, 4294967296 * R, 4294967296 * R + d, u64_mul_nat _ _ _ (Nat.mod_eq_of_lt (by omega)), ?_, ?_, rfl, rfl⟩
  · rw [u64_wrap]; omega
  · rw [u64_wrap]; omega
set_option maxRecDepth 100000 in
set_option maxHeartbeats 4000000 in
theorem div64_big (H L Y : Nat) (hh : H < Y) (hl : L < 18446744073709551616) (hy : Y < 18446744073709551616) (hp : 0 < H) (w : World) :
    Calls Tryz.prog 325 #[.int .u64 (H : Int), .int .u64 (L : Int), .int .u64 (Y : Int)] w fun e w' => e = .returned (.tuple #[.int .u64 (((H * 18446744073709551616 + L) / Y : Nat) : Int), .int .u64 (((H * 18446744073709551616 + L) % Y : Nat) : Int)]) ∧ w = w' := by
  obtain ⟨s, v, y1, y0, t, l, u, m, d1, d0, a, F⟩ := div_a H L Y hh hl hy
  have HF := Lib.hid F
  have hlz := Lib.hid (lz_calls Y s hy F.lz)
  have z1 : ((Y : Int) == 0) = false := by simp; omega
  have z2 : ((H : Int) == 0) = false := by simp; omega
  have z3 : decide (Y ≤ H) = false := by simp; omega
  have z4 : ¬ Y ≤ H := by omega
  have es : IntKind.u64.wrap (s : Int) = (s : Int) := u64_nat _ _ (by have := F.hs; omega)
  have es2 : min s 64 = s := by have := F.hs; omega
  have et2 : min t 64 = t := by have := F.ht; omega
  have g := F.g _ _ rfl rfl
  have y1p : ¬ y1 = 0 := by have := g.h1; omega
  have y1q : (1 : Int) ≤ (y1 : Int) := by omega
  have y1r : ((y1 : Int) == 0) = false := by simp; omega
  have hq1 : IntKind.u64.wrap ((u : Int) / (y1 : Int)) = ((u / y1 : Nat) : Int) := by
    rw [← Int.natCast_ediv]
    exact u64_nat _ _ (Nat.mod_eq_of_lt (Nat.lt_of_le_of_lt (Nat.div_le_self _ _) (by have := g.hu; have := F.hv; omega)))
  have hq2 : IntKind.u64.wrap (((u / y1 : Nat) : Int) * (y1 : Int)) = ((u / y1 * y1 : Nat) : Int) := u64_mul_nat _ _ _ (Nat.mod_eq_of_lt (Nat.lt_of_le_of_lt (Nat.div_mul_le_self _ _) (by have := g.hu; have := F.hv; omega)))
  have hq3 : IntKind.u64.wrap ((u : Int) - ((u / y1 * y1 : Nat) : Int)) = ((u % y1 : Nat) : Int) := by
    have e := Nat.div_add_mod u y1
    rw [Nat.mul_comm] at e
    have h1 : u % y1 < 18446744073709551616 := by have := Nat.mod_lt u (show 0 < y1 by omega); have := g.h2; omega
    generalize u / y1 * y1 = z at *
    generalize u % y1 = r at *
    rw [u64_wrap]; omega
  obtain ⟨qa, hqa⟩ : ∃ q, q = u / y1 := ⟨_, rfl⟩
  obtain ⟨ra, hra⟩ : ∃ r, r = u % y1 := ⟨_, rfl⟩
  obtain ⟨za, hza⟩ : ∃ r, r = u / y1 * y1 := ⟨_, rfl⟩
  rw [← hza] at hq2 hq3
  rw [← hqa] at hq1 hq2 g
  rw [← hra] at hq3 g
  have G := Lib.hid g
  have hra2 : ra < 4294967296 := by have := Nat.mod_lt u (show 0 < y1 by omega); have := g.h2; omega
  clear hza hqa hra g
  have ev := F.ev
  have ey1 := F.ey1
  have ey0 := F.ey0
  have ea := F.ea
  have et := F.et
  have el := F.el
  have eo := F.eo
  have em := F.em
  have ed1 := F.ed1
  have ed0 := F.ed0
  clear hl hy hh hp F
  go_enter Tryz.func325, Tryz.ntmps325
  go_wp2_with fail
  refine (hlz.out _).mono ?_
  rintro e w' ⟨rfl, rfl⟩
  go_upto_block 0 with fail
  go_cut [15, 16] (fun q r wx => ∃ Q R : Nat, q = .int .u64 (Q : Int) ∧ r = .int .u64 (R : Int) ∧ Q = (u * 4294967296 + d1) / v ∧ wx = w)
  case first =>
    go_wp2_with fail
    go_loop [15, 16] (fun q r => ∃ Q R : Nat, q = .int .u64 (Q : Int) ∧ r = .int .u64 (R : Int) ∧ Guess v y1 y0 u d1 Q R ∧ R < 4294967296) (fun q _ => (intOf q).toNat)
    case atStart => exact ⟨qa, ra, rfl, rfl, G.out, hra2⟩
    case round =>
      obtain ⟨Q, R, rfl, rfl, g, hR⟩ := hrel
      clear hq1 hq2 hq3 hra2
      have gle := g.le
      have gy0 := g.h3
      have gy1 := g.h2
      have gd := g.hd
      have g4 := g.h1
      have HG := Lib.hid g
      by_cases hc : 4294967296 ≤ Q ∨ 4294967296 * R + d1 < Q * y0
      · have hm := g.more hc
        have hQp : 0 < Q := Nat.lt_of_le_of_lt (Nat.zero_le _) hm
        have gn := g.next hm
        have HN := Lib.hid gn
        clear gn g hm
        have c1 : IntKind.u64.wrap ((Q : Int) - 1) = ((Q - 1 : Nat) : Int) := by rw [u64_wrap]; omega
        have c2 : IntKind.u64.wrap ((R : Int) + (y1 : Int)) = ((R + y1 : Nat) : Int) := by rw [u64_wrap]; omega
        obtain ⟨Q', hQ'⟩ : ∃ q, q = Q - 1 := ⟨_, rfl⟩
        obtain ⟨R', hR'⟩ : ∃ q, q = R + y1 := ⟨_, rfl⟩
        rw [← hQ'] at c1 HN
        rw [← hR'] at c2 HN
        have hlt : Q' < Q := by omega
        have hle : Q' ≤ 4294967296 := by omega
        clear hQ' hR'
        by_cases hbig : 4294967296 ≤ Q
        · have b1 : (4294967296 : Int) ≤ (Q : Int) := by omega
          clear hc
          by_cases hout : 4294967296 ≤ R'
          · have b2 : (4294967296 : Int) ≤ (R' : Int) := by omega
            have HO := Lib.hid (HN.out.out hle hout)
            go_wp2_with fail
            go_meet
            exact ⟨Q', R', rfl, rfl, HO.out, rfl⟩
          · have b2 : ¬ (4294967296 : Int) ≤ (R' : Int) := by omega
            go_wp2_with fail
            go_round
            case rel => exact ⟨Q', R', rfl, rfl, HN.out, by omega⟩
            case measure => simp [intOf]; omega
        · have b1 : ¬ (4294967296 : Int) ≤ (Q : Int) := by omega
          obtain ⟨P, R1, R2, c3, c4, c5, hP, hR2⟩ := guess_test Q y0 R d1 (by omega) gy0 hR gd
          have b3 : R2 < P := by rcases hc with hc | hc; exact absurd hc hbig; rw [hP, hR2]; exact hc
          clear hc hP hR2
          by_cases hout : 4294967296 ≤ R'
          · have b2 : (4294967296 : Int) ≤ (R' : Int) := by omega
            have HO := Lib.hid (HN.out.out hle hout)
            go_wp2_with fail
            go_meet
            exact ⟨Q', R', rfl, rfl, HO.out, rfl⟩
          · have b2 : ¬ (4294967296 : Int) ≤ (R' : Int) := by omega
            go_wp2_with fail
            go_round
            case rel => exact ⟨Q', R', rfl, rfl, HN.out, by omega⟩
            case measure => simp [intOf]; omega
      · have hbig : ¬ 4294967296 ≤ Q := fun h => hc (.inl h)
        have b1 : ¬ (4294967296 : Int) ≤ (Q : Int) := by omega
        obtain ⟨P, R1, R2, c3, c4, c5, hP, hR2⟩ := guess_test Q y0 R d1 (by omega) gy0 hR gd
        have b3 : ¬ R2 < P := by rw [hP, hR2]; exact fun h => hc (.inr h)
        have HO := Lib.hid (g.done (by rw [← hP, ← hR2]; omega))
        clear hc hP hR2 g
        go_wp2_with fail
        go_meet
        exact ⟨Q, R, rfl, rfl, HO.out, rfl⟩
  case rest =>
    obtain ⟨Q, R, rfl, rfl, hQ, rfl⟩ := hcut
    have HQ := Lib.hid hQ
    obtain ⟨u2, hu2⟩ : ∃ r, r = (u * 4294967296 + d1) % v := ⟨_, rfl⟩
    obtain ⟨x1, x2, x3, B⟩ := div_b v u d1 Q u2 HF.out.hv G.out.pos hQ hu2
    have e1 := B.e1
    have e2 := B.e2
    have e3 := B.e3
    have e4 := B.e4
    have hlt2 : u2 < v := by rw [hu2]; exact Nat.mod_lt _ G.out.pos
    have hv2 := HF.out.hv
    have g := Guess.first G.out.hv G.out.h1 G.out.h2 G.out.h3 hlt2 HF.out.hd0
    have HU2 := Lib.hid hu2
    clear hQ hu2 B hq1 hq2 hq3 hra2
    have hq1 : IntKind.u64.wrap ((u2 : Int) / (y1 : Int)) = ((u2 / y1 : Nat) : Int) := by
      rw [← Int.natCast_ediv]
      exact u64_nat _ _ (Nat.mod_eq_of_lt (Nat.lt_of_le_of_lt (Nat.div_le_self _ _) (by omega)))
    have hq2 : IntKind.u64.wrap (((u2 / y1 : Nat) : Int) * (y1 : Int)) = ((u2 / y1 * y1 : Nat) : Int) := u64_mul_nat _ _ _ (Nat.mod_eq_of_lt (Nat.lt_of_le_of_lt (Nat.div_mul_le_self _ _) (by omega)))
    have hm2 : u2 % y1 < 4294967296 := by have := Nat.mod_lt u2 (show 0 < y1 by omega); have := g.h2; omega
    have hq3 : IntKind.u64.wrap ((u2 : Int) - ((u2 / y1 * y1 : Nat) : Int)) = ((u2 % y1 : Nat) : Int) := by
      have e := Nat.div_add_mod u2 y1
      rw [Nat.mul_comm] at e
      clear e1 e2 e3 e4 g hq1 hq2
      generalize u2 / y1 * y1 = z at *
      generalize u2 % y1 = r at *
      rw [u64_wrap]; omega
    obtain ⟨qb, hqb⟩ : ∃ q, q = u2 / y1 := ⟨_, rfl⟩
    obtain ⟨rb, hrb⟩ : ∃ r, r = u2 % y1 := ⟨_, rfl⟩
    obtain ⟨zb, hzb⟩ : ∃ r, r = u2 / y1 * y1 := ⟨_, rfl⟩
    rw [← hzb] at hq2 hq3
    rw [← hqb] at hq1 hq2 g
    rw [← hrb] at hq3 g hm2
    have G2 := Lib.hid g
    clear hzb hqb hrb g
    go_upto_block 2 with fail
    go_cut [16, 18] (fun r q wx => ∃ Q2 R2 : Nat, q = .int .u64 (Q2 : Int) ∧ r = .int .u64 (R2 : Int) ∧ Q2 = (u2 * 4294967296 + d0) / v ∧ wx = wc)
    case first =>
      go_wp2_with fail
      go_loop [16, 18] (fun r q => ∃ Q R : Nat, q = .int .u64 (Q : Int) ∧ r = .int .u64 (R : Int) ∧ Guess v y1 y0 u2 d0 Q R ∧ R < 4294967296) (fun _ q => (intOf q).toNat)
      case atStart => exact ⟨qb, rb, rfl, rfl, G2.out, hm2⟩
      case round =>
        obtain ⟨Q, R, rfl, rfl, g, hR⟩ := hrel
        clear hq1 hq2 hq3 hm2
        have gle := g.le
        have gy0 := g.h3
        have gy1 := g.h2
        have gd := g.hd
        have g4 := g.h1
        have HG := Lib.hid g
        by_cases hc : 4294967296 ≤ Q ∨ 4294967296 * R + d0 < Q * y0
        · have hm := g.more hc
          have hQp : 0 < Q := Nat.lt_of_le_of_lt (Nat.zero_le _) hm
          have gn := g.next hm
          have HN := Lib.hid gn
          clear gn g hm
          have c1 : IntKind.u64.wrap ((Q : Int) - 1) = ((Q - 1 : Nat) : Int) := by rw [u64_wrap]; omega
          have c2 : IntKind.u64.wrap ((R : Int) + (y1 : Int)) = ((R + y1 : Nat) : Int) := by rw [u64_wrap]; omega
          obtain ⟨Q', hQ'⟩ : ∃ q, q = Q - 1 := ⟨_, rfl⟩
          obtain ⟨R', hR'⟩ : ∃ q, q = R + y1 := ⟨_, rfl⟩
          rw [← hQ'] at c1 HN
          rw [← hR'] at c2 HN
          have hlt : Q' < Q := by omega
          have hle : Q' ≤ 4294967296 := by omega
          clear hQ' hR'
          by_cases hbig : 4294967296 ≤ Q
          · have b1 : (4294967296 : Int) ≤ (Q : Int) := by omega
            clear hc
            by_cases hout : 4294967296 ≤ R'
            · have b2 : (4294967296 : Int) ≤ (R' : Int) := by omega
              have HO := Lib.hid (HN.out.out hle hout)
              go_wp2_with fail
              go_meet
              exact ⟨Q', R', rfl, rfl, HO.out, rfl⟩
            · have b2 : ¬ (4294967296 : Int) ≤ (R' : Int) := by omega
              go_wp2_with fail
              go_round
              case rel => exact ⟨Q', R', rfl, rfl, HN.out, by omega⟩
              case measure => simp [intOf]; omega
          · have b1 : ¬ (4294967296 : Int) ≤ (Q : Int) := by omega
            obtain ⟨P, R1, R2, c3, c4, c5, hP, hR2⟩ := guess_test Q y0 R d0 (by omega) gy0 hR gd
            have b3 : R2 < P := by rcases hc with hc | hc; exact absurd hc hbig; rw [hP, hR2]; exact hc
            clear hc hP hR2
            by_cases hout : 4294967296 ≤ R'
            · have b2 : (4294967296 : Int) ≤ (R' : Int) := by omega
              have HO := Lib.hid (HN.out.out hle hout)
              go_wp2_with fail
              go_meet
              exact ⟨Q', R', rfl, rfl, HO.out, rfl⟩
            · have b2 : ¬ (4294967296 : Int) ≤ (R' : Int) := by omega
              go_wp2_with fail
              go_round
              case rel => exact ⟨Q', R', rfl, rfl, HN.out, by omega⟩
              case measure => simp [intOf]; omega
        · have hbig : ¬ 4294967296 ≤ Q := fun h => hc (.inl h)
          have b1 : ¬ (4294967296 : Int) ≤ (Q : Int) := by omega
          obtain ⟨P, R1, R2, c3, c4, c5, hP, hR2⟩ := guess_test Q y0 R d0 (by omega) gy0 hR gd
          have b3 : ¬ R2 < P := by rw [hP, hR2]; exact fun h => hc (.inr h)
          have HO := Lib.hid (g.done (by rw [← hP, ← hR2]; omega))
          clear hc hP hR2 g
          go_wp2_with fail
          go_meet
          exact ⟨Q, R, rfl, rfl, HO.out, rfl⟩
    case rest =>
      obtain ⟨Q2, R2, rfl, rfl, hQ2, rfl⟩ := hcut
      clear hq1 hq2 hq3 hm2
      obtain ⟨rr, hrr⟩ : ∃ r, r = (u2 * 4294967296 + d0) % v := ⟨_, rfl⟩
      obtain ⟨y1', y2', y3', B⟩ := div_b v u2 d0 Q2 rr HF.out.hv G.out.pos hQ2 hrr
      have i1 := B.e1
      have i2 := B.e2
      have i3 := B.e3
      have i4 := B.e4
      have hQs : Q < 4294967296 := by rw [HQ.out]; exact G.out.small
      have hQ2s : Q2 < 4294967296 := by rw [hQ2]; exact G2.out.small
      have i5 : IntKind.u64.wrap ((Q : Int) * 4294967296) = ((Q * 4294967296 : Nat) : Int) := u64_mul_nat Q 4294967296 _ (Nat.mod_eq_of_lt (by omega))
      have i6 : IntKind.u64.wrap (((Q * 4294967296 : Nat) : Int) + (Q2 : Int)) = ((Q * 4294967296 + Q2 : Nat) : Int) := by rw [u64_wrap]; omega
      have i7 : (rr : Int) / 2 ^ s = ((rr / 2 ^ s : Nat) : Int) := by rw [Int.natCast_ediv, Int.natCast_pow]; rfl
      have hfin : RowKit.Hid ((H * 18446744073709551616 + L) / Y = Q * 4294967296 + Q2 ∧ (H * 18446744073709551616 + L) % Y = rr / 2 ^ s) := by
        refine Lib.hid ⟨?_, ?_⟩
        · rw [HF.out.qt, ← HQ.out, ← HU2.out, ← hQ2]
        · rw [HF.out.rt, ← HU2.out, ← hrr]
      obtain ⟨f1, hf1⟩ : ∃ r, r = Q * 4294967296 := ⟨_, rfl⟩
      obtain ⟨f2, hf2⟩ : ∃ r, r = Q * 4294967296 + Q2 := ⟨_, rfl⟩
      obtain ⟨f3, hf3⟩ : ∃ r, r = rr / 2 ^ s := ⟨_, rfl⟩
      rw [← hf2, ← hf3] at hfin
      rw [← hf1] at i5 i6
      rw [hf1, ← hf2] at i6
      rw [← hf1] at i6
      rw [← hf3] at i7
      clear hQ2 hrr B hf1 hf2 hf3 hQs hQ2s
      go_wp2_with fail
      go_ret2
      exact ⟨by rw [hfin.out.1, hfin.out.2]; rfl, rfl⟩
theorem div64_calls (w0 : World) (H L Y : Nat) (hh : H < Y) (hl : L < 18446744073709551616) (hy : Y < 18446744073709551616) (w : World) (h : Ext w0 w) :
    Calls Tryz.prog 325 #[.int .u64 (H : Int), .int .u64 (L : Int), .int .u64 (Y : Int)] w fun e w' => e = .returned (.tuple #[.int .u64 (((H * 18446744073709551616 + L) / Y : Nat) : Int), .int .u64 (((H * 18446744073709551616 + L) % Y : Nat) : Int)]) ∧ Ext w0 w' := by
  rcases Nat.eq_zero_or_pos H with hz | hp
  · subst hz
    have e := div64_zero w0 L Y hl hy (by omega) w h
    rw [Nat.zero_mul, Nat.zero_add]
    exact e
  · exact (div64_big H L Y hh hl hy hp w).mono fun e w' ⟨he, hw⟩ => ⟨he, hw ▸ h⟩
end Go.Proofs.YtifnkmddinoneaaGreatDoor
