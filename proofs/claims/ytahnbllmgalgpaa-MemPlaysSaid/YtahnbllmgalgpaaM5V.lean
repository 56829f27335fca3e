/- The document's answers for layer 5: rows that are written and moved, what is given out, a new memory. Conditions: the block is a memory (Mm). -/
import Derived.Test.YtahnbllmgalgpaaM5U
namespace Go.Proofs.Ytahnbllmgalgpaa
open Go.RowKit
set_option linter.unusedVariables false

theorem rwrite_ok {w : World} {p q : Nat} {B : List UInt8} {h : Int} (m : Mm w p q B h) (o : Nat) (s : ByteArray) (ho : o + s.size ≤ B.length) :
    Calls Try.prog 35 #[Pt p, .int .i64 (o : Int), .string s] w fun e w' => e = .returned (.int .i64 0) ∧ Mm w' p q (splice B o s.data.toList) h ∧ Kept p q w w' := by
  have hhi := m.hi
  have HP := Lib.hid (rthere m o s.size (by unfold I64; omega) (by unfold I64; omega) true (yesB (by omega)))
  have m0 : Mm w p q (splice B o (s.data.toList.take 0)) h := by rw [List.take_zero, splice_nil]; exact m
  have hk0 := Kept.refl p q w
  have HL := Lib.hid (show s.data.toList.length = s.size from (Lib.size_eq s).symm)
  have hs1 : (s.size : Int) ≤ 65536 := by omega
  clear m
  go_enter Try.func35, Try.ntmps35
  go_wp2_with ((with_reducible refine (HP.out).mono ?_); rintro e w' ⟨rfl, rfl⟩)
  go_loopw [7] (fun i wr => ∃ k : Nat, k ≤ s.size ∧ i = .int .i64 (k : Int) ∧ Mm wr p q (splice B o (s.data.toList.take k)) h ∧ Kept p q w wr) (fun i _ => s.size - (intOf i).toNat)
  case atStart => exact ⟨0, by omega, rfl, m0, hk0⟩
  case round =>
    clear m0 hk0
    obtain ⟨k, hk, rfl, hm, hkp⟩ := hrel
    by_cases hlt : k < s.size
    · have hlk : k < s.data.toList.length := by rw [HL.out]; exact hlt
      have hs := splice_len (B := B) (o := o) (l := s.data.toList.take k) (by simp; omega)
      have hc := hm.bs (o + k) (by omega)
      obtain ⟨y, hy⟩ : ∃ y, y = (((splice B o (s.data.toList.take k))[o + k]'(by omega)).toNat : Int) := ⟨_, rfl⟩
      rw [← hy] at hc
      have hf := hm.fb (o + k)
      have c0 := hm.c0
      rw [hs] at c0
      have hg : s.data.toList[k] = s[k]'hlt := by rw [Array.getElem_toList]; rfl
      have hput := hm.put (o + k) (by omega) (s.data.toList[k])
      have hset := splice_set (B := B) (o := o) hlk (by rw [HL.out]; exact ho)
      rw [hset, hg] at hput
      have HM := Lib.hid hput.drew
      have hkk := Lib.hid (hkp.set (x := ⟨q, o + k, none⟩) (Or.inr rfl) (.int .u8 ((s[k]'hlt).toNat : Int))).drew
      have q1 : IntKind.i64.wrap ((o : Int) + (k : Int)) = (o : Int) + (k : Int) := IntWalk.i64_in _ (by omega)
      have q2 : (o : Int) + (k : Int) < (B.length : Int) := by omega
      have q3 : (0 : Int) ≤ (o : Int) + (k : Int) := by omega
      have q4 : ((o : Int) + (k : Int)).toNat = o + k := by omega
      clear hm hkp hy hs hput hset hg
      go_wp2_with fail
      go_region
      go_wp2
      go_roundw
      case rel => exact ⟨k + 1, by omega, by go_num, HM.out, hkk.out⟩
      case measure => simp [intOf]; omega
    · have : k = s.size := by omega
      subst this
      clear hk hlt
      go_wp2
      go_ret
      rw [List.take_of_length_le (by rw [HL.out]; omega)] at hm
      exact ⟨rfl, hm, hkp⟩
theorem rmove_no {w : World} {p q : Nat} {B : List UInt8} {h : Int} (m : Mm w p q B h) (f a n : Int) (hf : I64 f) (hn : I64 n) (ho : inB B.length f n = false) :
    Calls Try.prog 37 #[Pt p, .int .i64 f, .int .i64 a, .int .i64 n] w fun e w' => e = .returned (.int .i64 (-9)) ∧ w = w' := by
  have hp := Lib.hid (rtext_no m f n hf hn ho)
  clear m ho hf hn
  go_enter Try.func37, Try.ntmps37
  go_wp2_with ((with_reducible refine (hp.out).mono ?_); rintro e w' ⟨rfl, rfl⟩)
  go_ret
  exact ⟨rfl, rfl⟩
theorem rmove_far {w : World} {p q : Nat} {B : List UInt8} {h : Int} (m : Mm w p q B h) (f n : Nat) (a : Int) (ha : I64 a) (hf : f + n ≤ B.length) (ho : inB B.length a n = false) :
    Calls Try.prog 37 #[Pt p, .int .i64 (f : Int), .int .i64 a, .int .i64 (n : Int)] w fun e w' => e = .returned (.int .i64 (-9)) ∧ w = w' := by
  have hb := m.hi
  have h1 := Lib.hid (rtext_ok m f n hf)
  have hs : (textB ((B.drop f).take n)).size = n := by simp [textB, ByteArray.size]; omega
  have h2 := Lib.hid (rwrite_no m a (textB ((B.drop f).take n)) ha (by rw [hs]; unfold maxLen; omega) (by rw [hs]; exact ho))
  clear m ha hf ho hb
  generalize textB ((B.drop f).take n) = T at *
  go_enter Try.func37, Try.ntmps37
  go_wp2_with (first | ((with_reducible refine (h1.out).mono ?_); rintro e w' ⟨rfl, rfl⟩) | ((with_reducible refine (h2.out).mono ?_); rintro e w' ⟨rfl, rfl⟩))
  go_ret
  exact ⟨rfl, rfl⟩
theorem rmove_ok {w : World} {p q : Nat} {B : List UInt8} {h : Int} (m : Mm w p q B h) (f o n : Nat) (hf : f + n ≤ B.length) (ho : o + n ≤ B.length) :
    Calls Try.prog 37 #[Pt p, .int .i64 (f : Int), .int .i64 (o : Int), .int .i64 (n : Int)] w fun e w' => e = .returned (.int .i64 0) ∧ Mm w' p q (splice B o ((B.drop f).take n)) h ∧ Kept p q w w' := by
  have h1 := Lib.hid (rtext_ok m f n hf)
  have hs : (textB ((B.drop f).take n)).size = n := by simp [textB, ByteArray.size]; omega
  have hw := rwrite_ok m o (textB ((B.drop f).take n)) (by rw [hs]; exact ho)
  have hl : (textB ((B.drop f).take n)).data.toList = (B.drop f).take n := by simp [textB]
  rw [hl] at hw
  have h2 := Lib.hid hw
  clear m ho hf hw hl hs
  generalize textB ((B.drop f).take n) = T at *
  go_enter Try.func37, Try.ntmps37
  go_wp2_with ((with_reducible refine (h1.out).mono ?_); rintro e w' ⟨rfl, rfl⟩)
  refine (h2.out).mono ?_
  rintro e w' ⟨rfl, hm, hk⟩
  go_wp2_with fail
  go_ret
  exact ⟨rfl, hm, hk⟩
theorem rallot_ok {w : World} {p q : Nat} {B : List UInt8} {h : Int} (m : Mm w p q B h) (n : Int) (hn : inH B.length h n = true) :
    Calls Try.prog 38 #[Pt p, .int .i64 n] w fun e w' => e = .returned (.int .i64 0) ∧ Mm w' p q B (h + n) ∧ Kept p q w w' := by
  unfold inH at hn
  rw [decide_eq_true_eq] at hn
  have HM := Lib.hid (m.give (h' := h + n) hn.1 hn.2)
  have HK := Lib.hid ((Kept.refl p q w).set (x := ⟨p, 1, none⟩) (Or.inl rfl) (.int .i64 (h + n)))
  have b1 := m.hi
  have b2 := m.h0
  have b3 := m.h1
  have b4 := m.lo
  have c0 := m.c0
  have hc := m.c1
  have hf := m.f1
  obtain ⟨L, hL⟩ : ∃ L, L = B.length := ⟨_, rfl⟩
  rw [← hL] at c0 b1 b3 b4 hn
  obtain ⟨n1, n2⟩ := hn
  clear m hL
  go_enter Try.func38, Try.ntmps38
  go_wp2
  go_ret
  exact ⟨rfl, HM.out, HK.out⟩
theorem rallot_no {w : World} {p q : Nat} {B : List UInt8} {h : Int} (m : Mm w p q B h) (n : Int) (hI : I64 n) (hn : inH B.length h n = false) :
    Calls Try.prog 38 #[Pt p, .int .i64 n] w fun e w' => e = .returned (.int .i64 (-8)) ∧ w = w' := by
  unfold inH at hn
  rw [decide_eq_false_iff_not] at hn
  unfold I64 at hI
  have b1 := m.hi
  have b2 := m.h0
  have b3 := m.h1
  have b4 := m.lo
  have c0 := m.c0
  have hc := m.c1
  obtain ⟨L, hL⟩ : ∃ L, L = B.length := ⟨_, rfl⟩
  rw [← hL] at c0 b1 b3 b4 hn
  clear m hL
  by_cases h1 : n < -h
  · clear hn
    go_enter Try.func38, Try.ntmps38
    go_wp2
    go_ret
    exact ⟨rfl, rfl⟩
  · have h2 : (L : Int) - 512 - h < n := by omega
    clear hn
    go_enter Try.func38, Try.ntmps38
    go_wp2
    go_ret
    exact ⟨rfl, rfl⟩
theorem ralign_calls {w : World} {p q : Nat} {B : List UInt8} {h x : Int} {R : World → Prop} (m : Mm w p q B h)
    (ha : Calls Try.prog 38 #[Pt p, .int .i64 (upN h)] w fun e w' => e = .returned (.int .i64 x) ∧ R w') :
    Calls Try.prog 39 #[Pt p] w fun e w' => e = .returned (.int .i64 x) ∧ R w' := by
  have hA := Lib.hid ha
  have hc := m.c1
  have b1 := m.hi
  have b2 := m.h0
  have b3 := m.h1
  have b4 : h ≤ 65536 := by omega
  have hu : upN h = -(h % 8) % 8 := by unfold upN; omega
  rw [hu] at hA
  have b5 : 0 ≤ h % 8 ∧ h % 8 < 8 := by omega
  clear m ha b3 b1 hu
  go_enter Try.func39, Try.ntmps39
  go_wp2_with fail
  refine (hA.out).mono ?_
  rintro e w' ⟨rfl, hR⟩
  go_wp2_with fail
  go_ret
  exact ⟨rfl, hR⟩
theorem rcomma_off {w : World} {p q : Nat} {B : List UInt8} {h : Int} (m : Mm w p q B h) (x : Int) (h8 : h % 8 ≠ 0) :
    Calls Try.prog 40 #[Pt p, .int .i64 x] w fun e w' => e = .returned (.int .i64 (-23)) ∧ w = w' := by
  have hc := m.c1
  have b1 := m.hi
  have b2 := m.h0
  have b3 := m.h1
  have b4 : h ≤ 65536 := by omega
  have b5 : (h % 8 == 0) = false := by rw [beq_eq_false_iff_ne]; exact h8
  clear m h8 b3 b1
  go_enter Try.func40, Try.ntmps40
  go_wp2
  go_ret
  exact ⟨rfl, rfl⟩
theorem rcomma_no {w : World} {p q : Nat} {B : List UInt8} {h : Int} (m : Mm w p q B h) (x : Int) (h8 : h % 8 = 0) (hn : inH B.length h 8 = false) :
    Calls Try.prog 40 #[Pt p, .int .i64 x] w fun e w' => e = .returned (.int .i64 (-8)) ∧ w = w' := by
  have hc := m.c1
  have hA := Lib.hid (rallot_no m 8 (by unfold I64; omega) hn)
  have b1 := m.hi
  have b2 := m.h0
  have b3 := m.h1
  have b4 : h ≤ 65536 := by omega
  have b5 : (h % 8 == 0) = true := by rw [beq_iff_eq]; exact h8
  clear m h8 b3 b1 hn
  go_enter Try.func40, Try.ntmps40
  go_wp2_with ((with_reducible refine (hA.out).mono ?_); rintro e w' ⟨rfl, rfl⟩)
  go_ret
  exact ⟨rfl, rfl⟩
theorem rcomma_ok {w : World} {p q : Nat} {B : List UInt8} {h : Int} (m : Mm w p q B h) (x : Int) (hx : I64 x) (h8 : h % 8 = 0) (hn : inH B.length h 8 = true) :
    Calls Try.prog 40 #[Pt p, .int .i64 x] w fun e w' => e = .returned (.int .i64 0) ∧ Mm w' p q (splice B h.toNat (le8 x)) (h + 8) ∧ Kept p q w w' := by
  have hc := m.c1
  have hA := Lib.hid (rallot_ok m 8 hn)
  unfold inH at hn
  rw [decide_eq_true_eq] at hn
  have b1 := m.hi
  have b2 := m.h0
  have b3 := m.h1
  have b4 : h ≤ 65536 := by omega
  have b5 : (h % 8 == 0) = true := by rw [beq_iff_eq]; exact h8
  have hP : ∀ W, Mm W p q B (h + 8) → Calls Try.prog 31 #[Pt p, .int .i64 h, .int .i64 x] W fun e w' => e = .returned (.int .i64 0) ∧ Mm w' p q (splice B h.toNat (le8 x)) (h + 8) ∧ Kept p q W w' := fun W hm => by
    have := rput_ok hm h.toNat x hx (by omega) (by omega)
    rw [Int.toNat_of_nonneg b2] at this
    exact this
  have HP := Lib.hid hP
  clear m h8 b3 b1 hn hP
  go_enter Try.func40, Try.ntmps40
  go_wp2_with fail
  refine (hA.out).mono ?_
  rintro e w1 ⟨rfl, hm, hk⟩
  go_wp2_with fail
  refine (HP.out _ hm).mono ?_
  rintro e w2 ⟨rfl, hm2, hk2⟩
  go_wp2_with fail
  go_ret
  exact ⟨rfl, hm2, hk.trans hk2⟩
theorem rccomma_no {w : World} {p q : Nat} {B : List UInt8} {h : Int} (m : Mm w p q B h) (c : Int) (hn : inH B.length h 1 = false) :
    Calls Try.prog 41 #[Pt p, .int .u8 c] w fun e w' => e = .returned (.int .i64 (-8)) ∧ w = w' := by
  have hc := m.c1
  have hA := Lib.hid (rallot_no m 1 (by unfold I64; omega) hn)
  clear m hn
  go_enter Try.func41, Try.ntmps41
  go_wp2_with ((with_reducible refine (hA.out).mono ?_); rintro e w' ⟨rfl, rfl⟩)
  go_ret
  exact ⟨rfl, rfl⟩
theorem rccomma_ok {w : World} {p q : Nat} {B : List UInt8} {h : Int} (m : Mm w p q B h) (c : UInt8) (hn : inH B.length h 1 = true) :
    Calls Try.prog 41 #[Pt p, .int .u8 (c.toNat : Int)] w fun e w' => e = .returned (.int .i64 0) ∧ Mm w' p q (splice B h.toNat [c]) (h + 1) ∧ Kept p q w w' := by
  have hc := m.c1
  have hA := Lib.hid (rallot_ok m 1 hn)
  unfold inH at hn
  rw [decide_eq_true_eq] at hn
  have b2 := m.h0
  have b3 := m.h1
  have hP : ∀ W, Mm W p q B (h + 1) → Calls Try.prog 33 #[Pt p, .int .i64 h, .int .u8 (c.toNat : Int)] W fun e w' => e = .returned (.int .i64 0) ∧ Mm w' p q (splice B h.toNat [c]) (h + 1) ∧ Kept p q W w' := fun W hm => by
    have := rputbyte_ok hm h.toNat c (by omega)
    rw [Int.toNat_of_nonneg b2] at this
    exact this
  have HP := Lib.hid hP
  clear m b3 hn hP
  go_enter Try.func41, Try.ntmps41
  go_wp2_with fail
  refine (hA.out).mono ?_
  rintro e w1 ⟨rfl, hm, hk⟩
  go_wp2_with fail
  refine (HP.out _ hm).mono ?_
  rintro e w2 ⟨rfl, hm2, hk2⟩
  go_wp2_with fail
  go_ret
  exact ⟨rfl, hm2, hk.trans hk2⟩
theorem rnew_no (n : Int) (w : World) (h : n < 1024 ∨ 65536 < n ∨ n % 8 ≠ 0) (hn : I64 n) :
    Calls Try.prog 12 #[.int .i64 n] w fun e w' => e = .returned (.tuple #[.pointer none, .int .i64 1]) ∧ w = w' := by
  unfold I64 at hn
  by_cases h1 : n < 1024
  · clear h
    go_enter Try.func12, Try.ntmps12
    go_wp2
    go_ret2
    exact ⟨rfl, rfl⟩
  by_cases h2 : 65536 < n
  · clear h
    go_enter Try.func12, Try.ntmps12
    go_wp2
    go_ret2
    exact ⟨rfl, rfl⟩
  have h3 : (n % 8 == 0) = false := by rw [beq_eq_false_iff_ne]; omega
  clear h
  go_enter Try.func12, Try.ntmps12
  go_wp2
  go_ret2
  exact ⟨rfl, rfl⟩
theorem rnew_ok (n : Nat) (w : World) (h0 : 1024 ≤ n) (h1 : n ≤ 65536) (h8 : n % 8 = 0) :
    Calls Try.prog 12 #[.int .i64 (n : Int)] w (Fresh w n) := by
  have hm := Lib.hid (zeros_mm w n 5 40 h0 h1)
  have hx := Lib.hid (((Ext.refl w).cells (Array.replicate n (.int .u8 0)) 5).cells #[.slice (some ⟨w.heap.size, 0, none⟩) n n, .int .i64 0] 40)
  have hmk := make_zeros w n h1
  have b3 : ((n : Int) % 8 == 0) = true := by rw [beq_iff_eq]; omega
  have b4 : ((n : Int) % 8 != 0) = false := by unfold bne; rw [b3]; rfl
  clear h8
  go_enter Try.func12, Try.ntmps12
  go_wp2
  go_ret2
  exact ⟨_, _, rfl, hm.out, hx.out, by omega, by omega⟩
end Go.Proofs.Ytahnbllmgalgpaa
