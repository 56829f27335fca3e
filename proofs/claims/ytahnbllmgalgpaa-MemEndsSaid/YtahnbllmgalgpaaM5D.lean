/- Layer 5 (package mem): cells and bytes are put. Conditions: the block is a memory (Mm). -/
import Derived.Test.YtahnbllmgalgpaaM5C
namespace Go.Proofs.Ytahnbllmgalgpaa
open Go.RowKit
set_option linter.unusedVariables false

theorem put_err (v : Value) (a y x : Int) (w : World) (hc : Calls Try.prog 43 #[v, .int .i64 a] w fun e w' => e = .returned (.tuple #[.slice none 0 0, .int .i64 x]) ∧ w = w') :
    Calls Try.prog 18 #[v, .int .i64 a, .int .i64 y] w fun e w' => e = .returned (.int .i64 x) ∧ w = w' := by
  have hp := Lib.hid hc
  clear hc
  go_enter Try.func18, Try.ntmps18
  go_wp2_with ((with_reducible refine (hp.out).mono ?_); rintro e w' ⟨rfl, rfl⟩)
  go_loop [18] (fun i => i = .int .i64 0) (fun i => 0)
  case atStart => exact rfl
  case round =>
    obtain rfl := hrel
    go_wp2
    go_ret
    exact ⟨rfl, rfl⟩
theorem put_ok {w : World} {p q : Nat} {B : List UInt8} {h : Int} (m : Mm w p q B h) (o : Nat) (x : Int) (hx : I64 x) (ho : o + 8 ≤ B.length) (h8 : o % 8 = 0) :
    Calls Try.prog 18 #[Pt p, .int .i64 (o : Int), .int .i64 x] w fun e w' => e = .returned (.int .i64 0) ∧ Mm w' p q (splice B o (le8 x)) h ∧ Kept p q w w' := by
  have HP := Lib.hid (cellat_ok m o ho h8)
  have HB := Lib.hid (fun i hi => byte_of x hx i hi)
  have HI := Lib.hid hx
  have m0 : Mm w p q (splice B o ((le8 x).take 0)) h := by rw [List.take_zero, splice_nil]; exact m
  have hk0 := Kept.refl p q w
  clear m h8 hx
  have hl := le8_len x
  obtain ⟨l, hle⟩ : ∃ l, l = le8 x := ⟨_, rfl⟩
  have HG := Lib.hid (fun (i : Nat) (h : i < (le8 x).length) => le8_get x i h)
  rw [← hle] at hl HG m0 ⊢
  have HL := Lib.hid hl
  clear hl hle
  go_enter Try.func18, Try.ntmps18
  go_wp2_with ((with_reducible refine (HP.out).mono ?_); rintro e w' ⟨rfl, rfl⟩)
  go_loopw [18] (fun i wr => ∃ k : Nat, k ≤ 8 ∧ i = .int .i64 k ∧ Mm wr p q (splice B o (l.take k)) h ∧ Kept p q w wr) (fun i _ => 8 - (intOf i).toNat)
  case atStart => exact ⟨0, by omega, rfl, m0, hk0⟩
  case round =>
    clear m0 hk0
    obtain ⟨k, hk, rfl, hm, hkp⟩ := hrel
    by_cases hlt : k < 8
    · have hlk : k < l.length := by rw [HL.out]; exact hlt
      have hs := splice_len (B := B) (o := o) (l := l.take k) (by simp; omega)
      have hc := hm.bs (o + k) (by omega)
      obtain ⟨y, hy⟩ : ∃ y, y = (((splice B o (l.take k))[o + k]'(by omega)).toNat : Int) := ⟨_, rfl⟩
      rw [← hy] at hc
      have hf := hm.fb (o + k)
      have hput := Lib.hid (hm.put (o + k) (by omega) l[k])
      have hset := Lib.hid (splice_set (B := B) (o := o) hlk (by rw [HL.out]; exact ho))
      have hkk := Lib.hid (hkp.set (x := ⟨q, o + k, none⟩) (Or.inr rfl) (.int .u8 (l[k].toNat : Int)))
      have hbx := HI.out
      unfold I64 at hbx
      clear hm hkp hy hs
      go_wp2
      go_roundw
      case rel =>
        have hv : x / 2 ^ (8 * k) % 256 = (l[k].toNat : Int) := by rw [HB.out k hlt, HG.out k hlk]
        rw [hv]
        exact ⟨k + 1, by omega, by go_num, hset.out ▸ hput.out, hkk.out⟩
      case measure => simp [intOf]; omega
    · have : k = 8 := by omega
      subst this
      clear hk hlt
      go_wp2
      go_ret
      rw [List.take_of_length_le (by rw [HL.out]; omega)] at hm
      exact ⟨rfl, hm, hkp⟩
theorem fill_err (v : Value) (a n c x : Int) (w : World) (hc : Calls Try.prog 42 #[v, .int .i64 a, .int .i64 n] w fun e w' => e = .returned (.tuple #[.slice none 0 0, .int .i64 x]) ∧ w = w') :
    Calls Try.prog 21 #[v, .int .i64 a, .int .i64 n, .int .u8 c] w fun e w' => e = .returned (.int .i64 x) ∧ w = w' := by
  have hp := Lib.hid hc
  clear hc
  go_enter Try.func21, Try.ntmps21
  go_wp2_with ((with_reducible refine (hp.out).mono ?_); rintro e w' ⟨rfl, rfl⟩)
  go_loop [21] (fun i => i = .int .i64 0) (fun i => 0)
  case atStart => exact rfl
  case round =>
    obtain rfl := hrel
    go_wp2
    go_ret
    exact ⟨rfl, rfl⟩
theorem fill_ok {w : World} {p q : Nat} {B : List UInt8} {h : Int} (m : Mm w p q B h) (o n : Nat) (c : UInt8) (ho : o + n ≤ B.length) :
    Calls Try.prog 21 #[Pt p, .int .i64 (o : Int), .int .i64 (n : Int), .int .u8 (c.toNat : Int)] w fun e w' => e = .returned (.int .i64 0) ∧ Mm w' p q (splice B o (List.replicate n c)) h ∧ Kept p q w w' := by
  have HP := Lib.hid (part_ok m o n ho)
  have m0 : Mm w p q (splice B o ((List.replicate n c).take 0)) h := by rw [List.take_zero, splice_nil]; exact m
  have hk0 := Kept.refl p q w
  have hhi := m.hi
  have hn : n ≤ 65536 := by omega
  clear m hhi
  have HL := Lib.hid (List.length_replicate (n := n) (a := c))
  go_enter Try.func21, Try.ntmps21
  go_wp2_with ((with_reducible refine (HP.out).mono ?_); rintro e w' ⟨rfl, rfl⟩)
  go_loopw [21] (fun i wr => ∃ k : Nat, k ≤ n ∧ i = .int .i64 k ∧ Mm wr p q (splice B o ((List.replicate n c).take k)) h ∧ Kept p q w wr) (fun i _ => n - (intOf i).toNat)
  case atStart => exact ⟨0, by omega, rfl, m0, hk0⟩
  case round =>
    clear m0 hk0
    obtain ⟨k, hk, rfl, hm, hkp⟩ := hrel
    by_cases hlt : k < n
    · have hlk : k < (List.replicate n c).length := by rw [HL.out]; exact hlt
      have hs := splice_len (B := B) (o := o) (l := (List.replicate n c).take k) (by simp; omega)
      have hc := hm.bs (o + k) (by omega)
      obtain ⟨y, hy⟩ : ∃ y, y = (((splice B o ((List.replicate n c).take k))[o + k]'(by omega)).toNat : Int) := ⟨_, rfl⟩
      rw [← hy] at hc
      have hf := hm.fb (o + k)
      have hput := hm.put (o + k) (by omega) c
      have hset := splice_set (B := B) (o := o) hlk (by simp; omega)
      rw [List.getElem_replicate] at hset
      rw [hset] at hput
      have HM := Lib.hid hput
      have hkk := Lib.hid (hkp.set (x := ⟨q, o + k, none⟩) (Or.inr rfl) (.int .u8 (c.toNat : Int)))
      have hpa : pa o n = o := if_neg (by omega)
      clear hm hkp hy hs hlk hput hset
      go_wp2
      go_roundw
      case rel => exact ⟨k + 1, by omega, by go_num, HM.out, hkk.out⟩
      case measure => simp [intOf]; omega
    · have : k = n := by omega
      subst this
      clear hk hlt
      go_wp2
      go_ret
      rw [List.take_of_length_le (by rw [HL.out]; omega)] at hm
      exact ⟨rfl, hm, hkp⟩
theorem putbyte_err (v : Value) (a c x : Int) (w : World) (hc : Calls Try.prog 42 #[v, .int .i64 a, .int .i64 1] w fun e w' => e = .returned (.tuple #[.slice none 0 0, .int .i64 x]) ∧ w = w') :
    Calls Try.prog 24 #[v, .int .i64 a, .int .u8 c] w fun e w' => e = .returned (.int .i64 x) ∧ w = w' := by
  have hp := Lib.hid (fill_err v a 1 c x w hc)
  clear hc
  go_enter Try.func24, Try.ntmps24
  go_wp2_with ((with_reducible refine (hp.out).mono ?_); rintro e w' ⟨rfl, rfl⟩)
  go_ret
  exact ⟨rfl, rfl⟩
theorem putbyte_ok {w : World} {p q : Nat} {B : List UInt8} {h : Int} (m : Mm w p q B h) (o : Nat) (c : UInt8) (ho : o < B.length) :
    Calls Try.prog 24 #[Pt p, .int .i64 (o : Int), .int .u8 (c.toNat : Int)] w fun e w' => e = .returned (.int .i64 0) ∧ Mm w' p q (splice B o [c]) h ∧ Kept p q w w' := by
  have hp := Lib.hid (show Calls Try.prog 21 #[Pt p, .int .i64 (o : Int), .int .i64 1, .int .u8 (c.toNat : Int)] w fun e w' => e = .returned (.int .i64 0) ∧ Mm w' p q (splice B o [c]) h ∧ Kept p q w w' from fill_ok m o 1 c (by omega))
  clear m ho
  go_enter Try.func24, Try.ntmps24
  go_wp2_with ((with_reducible refine (hp.out).mono ?_); rintro e w' ⟨rfl, hm, hk⟩)
  go_ret
  exact ⟨rfl, hm, hk⟩
end Go.Proofs.Ytahnbllmgalgpaa
