/- The document's answers for layer 5: what is there, cells, bytes and texts that are told. Conditions: the block is a memory (Mm). -/
import Derived.Test.YtahnbllmgalgpaaM5L
namespace Go.Proofs.Ytahnbllmgalgpaa
open Go.RowKit
set_option linter.unusedVariables false

theorem rthere {w : World} {p q : Nat} {B : List UInt8} {h : Int} (m : Mm w p q B h) (a n : Int) (ha : I64 a) (hn : I64 n) (r : Bool) (hr : inB B.length a n = r) :
    Calls Try.prog 44 #[Pt p, .int .i64 a, .int .i64 n] w fun e w' => e = .returned (.bool r) ∧ w = w' := by
  have c0 := m.c0
  have hhi := m.hi
  obtain ⟨L, hL⟩ : ∃ L, L = B.length := ⟨_, rfl⟩
  rw [← hL] at c0 hhi hr
  unfold I64 at ha hn
  unfold inB at hr
  clear hL m
  by_cases h1 : a < 0
  · have e : r = false := by rw [← hr]; exact decide_eq_false (by omega)
    subst e
    clear hr
    go_enter Try.func44, Try.ntmps44
    go_wp2
    go_ret
    exact ⟨rfl, rfl⟩
  by_cases h2 : (L : Int) < a
  · have e : r = false := by rw [← hr]; exact decide_eq_false (by omega)
    subst e
    clear hr
    go_enter Try.func44, Try.ntmps44
    go_wp2
    go_ret
    exact ⟨rfl, rfl⟩
  by_cases h3 : n < 0
  · have e : r = false := by rw [← hr]; exact decide_eq_false (by omega)
    subst e
    clear hr
    go_enter Try.func44, Try.ntmps44
    go_wp2
    go_ret
    exact ⟨rfl, rfl⟩
  by_cases h4 : (L : Int) - a < n
  · have e : r = false := by rw [← hr]; exact decide_eq_false (by omega)
    subst e
    have q : decide (n ≤ (L : Int) - a) = false := decide_eq_false (by omega)
    clear hr
    go_enter Try.func44, Try.ntmps44
    go_wp2
    go_ret
    exact ⟨rfl, rfl⟩
  · have e : r = true := by rw [← hr]; exact decide_eq_true (by omega)
    subst e
    have q : decide (n ≤ (L : Int) - a) = true := decide_eq_true (by omega)
    clear hr
    go_enter Try.func44, Try.ntmps44
    go_wp2
    go_ret
    exact ⟨rfl, rfl⟩
theorem yesB {n a k : Int} (h : 0 ≤ a ∧ 0 ≤ k ∧ a ≤ n - k) : inB n a k = true := decide_eq_true h
theorem noB {n a k : Int} (h : ¬ (0 ≤ a ∧ 0 ≤ k ∧ a ≤ n - k)) : inB n a k = false := decide_eq_false h
theorem rget_no {w : World} {p q : Nat} {B : List UInt8} {h : Int} (m : Mm w p q B h) (a : Int) (ha : I64 a) (ho : inB B.length a 8 = false) :
    Calls Try.prog 30 #[Pt p, .int .i64 a] w fun e w' => e = .returned (.tuple #[.int .i64 0, .int .i64 (-9)]) ∧ w = w' := by
  have hp := Lib.hid (rthere m a 8 ha (by unfold I64; omega) false ho)
  clear m ho ha
  go_enter Try.func30, Try.ntmps30
  go_wp2_with ((with_reducible refine (hp.out).mono ?_); rintro e w' ⟨rfl, rfl⟩)
  go_ret2
  exact ⟨rfl, rfl⟩
theorem rget_off {w : World} {p q : Nat} {B : List UInt8} {h : Int} (m : Mm w p q B h) (o : Nat) (ho : o + 8 ≤ B.length) (h8 : o % 8 ≠ 0) :
    Calls Try.prog 30 #[Pt p, .int .i64 (o : Int)] w fun e w' => e = .returned (.tuple #[.int .i64 0, .int .i64 (-23)]) ∧ w = w' := by
  have hb := m.hi
  have hp := Lib.hid (rthere m o 8 (by unfold I64; omega) (by unfold I64; omega) true (yesB (by omega)))
  have b1 : (o : Int) ≤ 65536 := by omega
  have b2 : ((o : Int) % 8 == 0) = false := by rw [beq_eq_false_iff_ne]; omega
  clear m ho hb h8
  go_enter Try.func30, Try.ntmps30
  go_wp2_with ((with_reducible refine (hp.out).mono ?_); rintro e w' ⟨rfl, rfl⟩)
  go_ret2
  exact ⟨rfl, rfl⟩
theorem leNat_drop (l : List UInt8) (k : Nat) (hk : k < l.length) : leNat (l.drop k) = leNat (l.drop (k + 1)) * 256 + l[k].toNat := by
  rw [List.drop_eq_getElem_cons hk]
  show l[k].toNat + 256 * leNat (l.drop (k + 1)) = _
  omega
theorem rget_row {w : World} {p q : Nat} {L : Nat} (o : Nat) (l : List UInt8) (hl : l.length = 8) (hb : L ≤ 65536) (ho : o + 8 ≤ L) (h8 : o % 8 = 0) (c0 : w.cell? ⟨p, 0, none⟩ = some (.slice (some ⟨q, 0, none⟩) L L))
    (hc : ∀ k (hk : k < l.length), w.cell? ⟨q, o + k, none⟩ = some (.int .u8 (l[k].toNat : Int)))
    (hp : Calls Try.prog 44 #[Pt p, .int .i64 (o : Int), .int .i64 8] w fun e w' => e = .returned (.bool true) ∧ w = w') :
    Calls Try.prog 30 #[Pt p, .int .i64 (o : Int)] w fun e w' => e = .returned (.tuple #[.int .i64 (cellOf l), .int .i64 0]) ∧ w = w' := by
  have HP := Lib.hid hp
  have HL := Lib.hid hl
  have HC := Lib.hid hc
  have b1 : (o : Int) ≤ 65536 := by omega
  have b2 : ((o : Int) % 8 == 0) = true := by rw [beq_iff_eq]; omega
  clear hl hc hp h8
  go_enter Try.func30, Try.ntmps30
  go_wp2_with ((with_reducible refine (HP.out).mono ?_); rintro e w' ⟨rfl, rfl⟩)
  go_loop [6, 7] (fun x i => ∃ (k X : Nat), k ≤ 8 ∧ i = .int .i64 ((k : Int) - 1) ∧ x = .int .u64 (X : Int) ∧ RowKit.Hid (X = leNat (l.drop k))) (fun _ i => (intOf i + 1).toNat)
  case atStart => exact ⟨8, 0, by omega, rfl, rfl, Lib.hid (by rw [List.drop_of_length_le (by rw [HL.out]; omega)]; rfl)⟩
  case round =>
    obtain ⟨k, X, hk, rfl, rfl, hX⟩ := hrel
    cases k with
    | zero =>
      go_wp2
      go_ret2
      have e : wrap64 (X : Int) = cellOf l := by rw [hX.out, List.drop_zero]; rfl
      exact ⟨by rw [← e]; rfl, rfl⟩
    | succ j =>
      have hj : j < 8 := by omega
      have hc := HC.out j (by rw [HL.out]; exact hj)
      have hd := Lib.hid (leNat_drop l j (by rw [HL.out]; exact hj))
      obtain ⟨c, hce⟩ : ∃ c, c = l[j]'(by rw [HL.out]; exact hj) := ⟨_, rfl⟩
      rw [← hce] at hc hd
      have hlt := leNat_lt (l.drop j)
      rw [hd.out, ← hX.out] at hlt
      have hll : (l.drop j).length ≤ 8 := by rw [List.length_drop, HL.out]; omega
      have hpw := Nat.pow_le_pow_right (n := 256) (by omega) hll
      have hb2 : X * 256 + c.toNat < 18446744073709551616 := Nat.lt_of_lt_of_le hlt (by simpa using hpw)
      have e1 : ((j + 1 : Nat) : Int) - 1 = (j : Int) := by omega
      have hu : IntKind.u64.wrap ((X : Int) * 256) = ((X * 256 : Nat) : Int) := by rw [u64_wrap]; omega
      have hu2 : IntKind.u64.wrap (((X * 256 : Nat) : Int) + (c.toNat : Int)) = ((X * 256 + c.toNat : Nat) : Int) := by rw [u64_wrap]; omega
      have hu3 : IntKind.u64.wrap (c.toNat : Int) = (c.toNat : Int) := by have := c.toNat_lt; rw [u64_wrap]; omega
      obtain ⟨Y, hY⟩ : ∃ Y, Y = X * 256 := ⟨_, rfl⟩
      obtain ⟨Z, hZ⟩ : ∃ Y, Y = X * 256 + c.toNat := ⟨_, rfl⟩
      rw [← hY] at hu hu2
      rw [← hY] at hZ
      rw [← hZ] at hu2
      have HZ := Lib.hid hZ
      have HY := Lib.hid hY
      rw [e1]
      clear hlt hll hpw hb2 hce hY hZ e1
      go_wp2
      go_round
      case rel => exact ⟨j, Z, by omega, rfl, rfl, Lib.hid (by rw [hd.out, HZ.out, HY.out, hX.out])⟩
      case measure => simp [intOf]
theorem rget_ok {w : World} {p q : Nat} {B : List UInt8} {h : Int} (m : Mm w p q B h) (o : Nat) (ho : o + 8 ≤ B.length) (h8 : o % 8 = 0) :
    Calls Try.prog 30 #[Pt p, .int .i64 (o : Int)] w fun e w' => e = .returned (.tuple #[.int .i64 (cellOf ((B.drop o).take 8)), .int .i64 0]) ∧ w = w' := by
  have hb := m.hi
  exact rget_row o _ (by simp; omega) hb ho h8 m.c0 (fun k hk => by
    rw [m.bs (o + k) (by simp at hk; omega)]
    simp) (rthere m o 8 (by unfold I64; omega) (by unfold I64; omega) true (yesB (by omega)))
theorem rput_err (v : Value) (a y x : Int) (hx : (x == 0) = false) (w : World) (hc : Calls Try.prog 30 #[v, .int .i64 a] w fun e w' => e = .returned (.tuple #[.int .i64 0, .int .i64 x]) ∧ w = w') :
    Calls Try.prog 31 #[v, .int .i64 a, .int .i64 y] w fun e w' => e = .returned (.int .i64 x) ∧ w = w' := by
  have hp := Lib.hid hc
  clear hc
  go_enter Try.func31, Try.ntmps31
  go_wp2_with ((with_reducible refine (hp.out).mono ?_); rintro e w' ⟨rfl, rfl⟩)
  go_ret
  exact ⟨rfl, rfl⟩
theorem rput_ok {w : World} {p q : Nat} {B : List UInt8} {h : Int} (m : Mm w p q B h) (o : Nat) (x : Int) (hx : I64 x) (ho : o + 8 ≤ B.length) (h8 : o % 8 = 0) :
    Calls Try.prog 31 #[Pt p, .int .i64 (o : Int), .int .i64 x] w fun e w' => e = .returned (.int .i64 0) ∧ Mm w' p q (splice B o (le8 x)) h ∧ Kept p q w w' := by
  have hb := m.hi
  have b1 : (o : Int) ≤ 65536 := by omega
  have hG := rget_ok m o ho h8
  generalize cellOf ((B.drop o).take 8) = y at hG
  have HP := Lib.hid hG
  have m0 : Mm w p q (splice B o ((le8 x).take 0)) h := by rw [List.take_zero, splice_nil]; exact m
  have hk0 := Kept.refl p q w
  have hl := le8_len x
  have hnat := natOf_is x
  have hnl := natOf_lt x
  have HG := Lib.hid (fun (i : Nat) (h : i < (le8 x).length) => le8_get x i h)
  obtain ⟨l, hle⟩ : ∃ l, l = le8 x := ⟨_, rfl⟩
  obtain ⟨N, hN⟩ : ∃ l, l = natOf x := ⟨_, rfl⟩
  rw [← hle] at hl HG m0 ⊢
  rw [← hN] at HG hnat hnl
  have HL := Lib.hid hl
  have HNL := Lib.hid hnl
  have HHO := Lib.hid ho
  clear m h8 hx hG hl hle hN hnl hb
  go_enter Try.func31, Try.ntmps31
  go_wp2_with ((with_reducible refine (HP.out).mono ?_); rintro e w' ⟨rfl, rfl⟩)
  go_loopw [9, 10] (fun y i wr => ∃ k Y : Nat, k ≤ 8 ∧ i = .int .i64 k ∧ y = .int .u64 (Y : Int) ∧ RowKit.Hid (Y = N / 256 ^ k) ∧ Mm wr p q (splice B o (l.take k)) h ∧ Kept p q w wr) (fun _ i _ => 8 - (intOf i).toNat)
  case atStart => exact ⟨0, N, by omega, rfl, rfl, Lib.hid (by simp), m0, hk0⟩
  case round =>
    clear m0 hk0
    obtain ⟨k, Y, hk, rfl, rfl, hY, hm, hkp⟩ := hrel
    by_cases hlt : k < 8
    · have hlk : k < l.length := by rw [HL.out]; exact hlt
      have hs := splice_len (B := B) (o := o) (l := l.take k) (by simp; omega)
      have hc := hm.bs (o + k) (by omega)
      obtain ⟨y, hy⟩ : ∃ y, y = (((splice B o (l.take k))[o + k]'(by omega)).toNat : Int) := ⟨_, rfl⟩
      rw [← hy] at hc
      have hf := hm.fb (o + k)
      have c0 := hm.c0
      rw [hs] at c0
      have hset := splice_set (B := B) (o := o) hlk (by rw [HL.out]; exact ho)
      have hput := hm.put (o + k) (by omega) l[k]
      rw [hset] at hput
      have HM := Lib.hid hput
      have hkk := Lib.hid (hkp.set (x := ⟨q, o + k, none⟩) (Or.inr rfl) (.int .u8 (l[k].toNat : Int)))
      have hYl : Y < 18446744073709551616 := Nat.lt_of_le_of_lt (by rw [hY.out]; exact Nat.div_le_self _ _) HNL.out
      have hv : ((Y % 256 : Nat) : Int) = (l[k].toNat : Int) := by rw [hY.out, HG.out k hlk]
      have HV := Lib.hid hv
      have HYL := Lib.hid hYl
      have hY2 := Lib.hid (show Y / 256 = N / 256 ^ (k + 1) by rw [hY.out, Nat.div_div_eq_div_mul, Nat.pow_succ])
      have hbl := hm.hi
      rw [hs] at hbl
      clear hm hkp hy hs hset hput hv hYl
      go_wp2
      go_roundw
      case rel =>
        have e1 : IntKind.u64.wrap ((Y : Int) / 256) = ((Y / 256 : Nat) : Int) := by have := HYL.out; rw [u64_wrap]; omega
        have e2 : (Y : Int) % 256 = (l[k].toNat : Int) := by rw [← HV.out]; omega
        rw [e1, e2]
        exact ⟨k + 1, Y / 256, by omega, by go_num, rfl, hY2, HM.out, hkk.out⟩
      case measure => simp [intOf]; omega
    · have : k = 8 := by omega
      subst this
      clear hk hlt
      go_wp2
      go_ret
      rw [List.take_of_length_le (by rw [HL.out]; omega)] at hm
      exact ⟨rfl, hm, hkp⟩
end Go.Proofs.Ytahnbllmgalgpaa
