/- Layer 5: MemPlays's walk. Condition: the arguments are a number of its kind and a slice of acts. -/
import Derived.Test.YtahnbllmgalgpaaM5X
import Derived.Test.YtahnbllmgalgpaaM5Y
import Derived.Test.YtahnbllmgalgpaaM5Z
import Derived.Deep.Cut
import Derived.Deep.DeepCutAuto
namespace Go.Proofs.Ytahnbllmgalgpaa
open Go.RowKit Go.ChangeShapes
set_option linter.unusedVariables false

theorem Two.ext {w w' : World} {p q p2 q2 : Nat} {B : List UInt8} {h : Int} (t : Two w p q p2 q2 B h) (k : Ext w w') : Two w' p q p2 q2 B h := ⟨t.m1.ext k, t.m2.ext k, t.a, t.b, t.c, t.d⟩
theorem does_any {w : World} {p q p2 q2 : Nat} {B : List UInt8} {h : Int} (t : Two w p q p2 q2 B h) (k x y z : Int) (hk : 0 ≤ k ∧ k ≤ 255) (hx : I64 x) (hy : I64 y) (hz : I64 z) :
    Calls Try.prog 14 #[Pt p, Pt p2, .agg #[.int .u8 k, .int .i64 x, .int .i64 y, .int .i64 z]] w (Did w p q p2 q2) := by
  have hc : k % 13 = 0 ∨ k % 13 = 1 ∨ k % 13 = 2 ∨ k % 13 = 3 ∨ k % 13 = 4 ∨ k % 13 = 5 ∨ k % 13 = 6 ∨ k % 13 = 7 ∨ k % 13 = 8 ∨ k % 13 = 9 ∨ k % 13 = 10 ∨ k % 13 = 11 ∨ k % 13 = 12 := by omega
  rcases hc with e | e | e | e | e | e | e | e | e | e | e | e | e
  · exact does_get t k x y z hk e hx hy hz
  · exact does_put t k x y z hk e hx hy hz
  · exact does_getbyte t k x y z hk e hx hy hz
  · exact does_putbyte t k x y z hk e hx hy hz
  · exact does_text t k x y z hk e hx hy hz
  · exact does_write t k x y z hk e hx hy hz
  · exact does_fill t k x y z hk e hx hy hz
  · exact does_move t k x y z hk e hx hy hz
  · exact does_allot t k x y z hk e hx hy hz
  · exact does_align t k x y z hk e hx hy hz
  · exact does_comma t k x y z hk e hx hy hz
  · exact does_ccomma t k x y z hk e hx hy hz
  · exact does_here t k x y z hk e hx hy hz
set_option maxHeartbeats 4000000 in
set_option maxRecDepth 100000 in
theorem plays_walk (w : World) (a : Int) (A : Option Addr) (len cap : Nat) (ha : (Lit.int .u16 a).wf = true) (R : IsActs w A len cap) :
    Calls Try.prog 3 #[.int .u16 a, .slice A len cap] w fun e w' => e = .returned (.bool true) ∧ Ext w w' := by
  have hu := bounds_u16 ha
  obtain ⟨n, hn⟩ : ∃ n : Nat, a % 4096 = (n : Int) := ⟨(a % 4096).toNat, by omega⟩
  have hn1 : n < 4096 := by omega
  have hS := Lib.hid (shown_calls w)
  have HR := Lib.hid R
  clear ha R
  by_cases hok : 1024 ≤ n ∧ n % 8 = 0
  · obtain ⟨ho1, ho8⟩ := hok
    have HO := Lib.hid ho8
    clear ho8
    go_enter Try.func3, Try.ntmps3
    go_wp2_with fail
    refine (hS.out).mono ?_
    rintro e w0 ⟨rfl, hx0⟩
    have hN := Lib.hid (new_ok n w0 ho1 (by omega) HO.out)
    go_wp2_with fail
    refine (hN.out).mono ?_
    rintro e w1 ⟨p, q, rfl, hm, hx1, hp, hq⟩
    have hN2 := Lib.hid (rnew_ok n w1 ho1 (by omega) HO.out)
    have hX1 := hx0.trans hx1
    have hp1 := Nat.le_trans hx0.1.size hp
    have hq1 := Nat.le_trans hx0.1.size hq
    clear hN hx0 hp hq hS
    go_wp2_with fail
    refine (hN2.out).mono ?_
    rintro e w2 ⟨p2, q2, rfl, hm2, hx2, hp2, hq2⟩
    have hTwo : Two w2 p q p2 q2 (zeros n) 0 := ⟨hm.ext hx2, hm2, Nat.ne_of_lt (Nat.lt_of_lt_of_le hm.lp hp2), Nat.ne_of_lt (Nat.lt_of_lt_of_le hm.lp hq2), Nat.ne_of_lt (Nat.lt_of_lt_of_le hm.lq hp2), Nat.ne_of_lt (Nat.lt_of_lt_of_le hm.lq hq2)⟩
    have HP := Lib.hid (And.intro (And.intro hp1 hq1) (And.intro (Nat.le_trans hX1.1.size hp2) (Nat.le_trans hX1.1.size hq2)))
    have hX := hX1.trans hx2
    obtain ⟨K, hK⟩ : ∃ K, K = min len 60 := ⟨_, rfl⟩
    have HF := Lib.hid (few_acts w2 A len cap K ⟨HR.out.1, HR.out.2.1⟩ hK)
    have HA := Lib.hid (fun i (hi : i < K) => HR.out.2.2 i (by omega))
    have hK1 : K ≤ 60 := by omega
    clear hN2 hm hx1 hp1 hq1 hm2 hx2 hp2 hq2 hX1 hK HR
    go_wp2_with ((with_reducible refine (HF.out).mono ?_); rintro e w' ⟨rfl, rfl⟩)
    go_loopw [43] (fun i wr => ∃ j : Nat, j ≤ K ∧ i = .int .i64 (j : Int) ∧ (∃ B h, Two wr p q p2 q2 B h) ∧ Ext w wr) (fun i _ => K - (intOf i).toNat)
    case atStart => exact ⟨0, by omega, rfl, ⟨_, _, hTwo⟩, hX⟩
    case round =>
      clear hTwo hX
      obtain ⟨j, hj, rfl, ⟨B, h, hT⟩, hX⟩ := hrel
      by_cases hlt : j < K
      · obtain ⟨b, o, rfl, k, x, y, z, c0, c1, c2, c3, wk, wx, wy, wz⟩ := HA.out j hlt
        have d0 := ext_keeps hX c0
        have d1 := ext_keeps hX c1
        have d2 := ext_keeps hX c2
        have d3 := ext_keeps hX c3
        have HXX := Lib.hid hX
        have HT := Lib.hid hT
        have HD := Lib.hid (fun W (t : Two W p q p2 q2 B h) => does_any t k x y z (bounds_u8 wk) (i64_of_wf wx) (i64_of_wf wy) (i64_of_wf wz))
        clear c0 c1 c2 c3 wk wx wy wz hX hT HA HF
        have hX3 := (Ext.refl wr).cells #[.int .u8 k, .int .i64 x, .int .i64 y, .int .i64 z] 35
        have HT3 := Lib.hid (HT.out.ext hX3)
        have HX3 := Lib.hid (HXX.out.trans hX3)
        clear hX3
        go_wp2_with fail
        refine (HD.out _ HT3.out).mono ?_
        rintro e w3 ⟨rfl, ⟨B', h', hT'⟩, hfr⟩
        have HT4 := Lib.hid hT'
        have HX4 := Lib.hid (hfr w HX3.out HP.out.1.1 HP.out.1.2 HP.out.2.1 HP.out.2.2)
        clear hfr hT' HD HT HXX HT3 HX3 d0 d1 d2 d3
        go_wp2_with fail
        go_roundw
        case rel => exact ⟨j + 1, by omega, by go_num, ⟨_, _, HT4.out⟩, HX4.out⟩
        case measure => simp [intOf]; omega
      · have hk2 : j = K := by omega
        subst hk2
        clear hj hlt HA HF
        have c0 := hT.m2.c0
        have c1 := hT.m2.c1
        have hcv : ∀ n, (convert 38 9 (.slice (some ⟨q2, 0, none⟩) B.length B.length)).run Try.prog (wr.drewN n) = .ok (.string (textB B)) (wr.drewN n) := fun n => by
          have := (hT.m2.ext ((Ext.refl wr).drewN n)).conv 0 B.length (by omega) B.length
          rw [List.drop_zero, List.take_length] at this
          have e : pa 0 B.length = 0 := by unfold pa; split <;> rfl
          rwa [e] at this
        have HCV := Lib.hid hcv
        obtain ⟨T, hT2⟩ : ∃ T, T = textB B := ⟨_, rfl⟩
        have htt : (T.toList == T.toList) = true := by simp
        have HAL := Lib.hid (fun n => (all_calls (hT.m1.ext ((Ext.refl _).drewN n))).mono fun e w' (h : _ ∧ _) => (⟨h.1, n, h.2.symm⟩ : _ ∧ ∃ m, w' = _))
        have HH := Lib.hid (fun n => (here_calls (hT.m1.ext ((Ext.refl _).drewN n))).mono fun e w' (h : _ ∧ _) => (⟨h.1, n, h.2.symm⟩ : _ ∧ ∃ m, w' = _))
        rw [← hT2] at HAL HCV
        have HXX := Lib.hid hX
        have hcv2 := HCV.out
        clear hT hX hcv hT2 HP HO
        go_wp2_with fail
        go_quiet ((first | (go_at_call 15; exact HAL.out _) | (go_at_call 16; exact HH.out _)))
        go_wp2
        go_ret
        exact ⟨by simp, HXX.out.drewN nq⟩
  · have HB := Lib.hid (show (n : Int) < 1024 ∨ 65536 < (n : Int) ∨ (n : Int) % 8 ≠ 0 by omega)
    have h1 := Lib.hid (fun w => new_no (n : Int) w HB.out (by unfold I64; omega))
    have h2 := Lib.hid (fun w => rnew_no (n : Int) w HB.out (by unfold I64; omega))
    clear hok HR
    go_enter Try.func3, Try.ntmps3
    go_wp2_with fail
    refine (hS.out).mono ?_
    rintro e w0 ⟨rfl, hx0⟩
    have HX := Lib.hid hx0
    clear hx0
    go_wp2_with (first | ((with_reducible refine (h1.out _).mono ?_); rintro e w' ⟨rfl, rfl⟩) | ((with_reducible refine (h2.out _).mono ?_); rintro e w' ⟨rfl, rfl⟩))
    go_ret
    exact ⟨rfl, HX.out⟩
end Go.Proofs.Ytahnbllmgalgpaa
