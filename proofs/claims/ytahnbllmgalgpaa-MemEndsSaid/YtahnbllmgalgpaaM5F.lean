/- Layer 5 (package mem): bytes are given out; cells and bytes are put behind those. Conditions: the block is a memory (Mm). -/
import Derived.Test.YtahnbllmgalgpaaM5E
namespace Go.Proofs.Ytahnbllmgalgpaa
open Go.RowKit
set_option linter.unusedVariables false

theorem allot_none (n : Int) (w : World) :
    Calls Try.prog 25 #[.pointer none, .int .i64 n] w fun e w' => e = .returned (.int .i64 2) ∧ w = w' := by
  go_enter Try.func25, Try.ntmps25
  go_wp2
  go_ret
  exact ⟨rfl, rfl⟩
def inH (L h n : Int) : Bool := decide (0 ≤ h + n ∧ h + n ≤ L - 512)
theorem allot_ok {w : World} {p q : Nat} {B : List UInt8} {h : Int} (m : Mm w p q B h) (n : Int) (hn : inH B.length h n = true) :
    Calls Try.prog 25 #[Pt p, .int .i64 n] w fun e w' => e = .returned (.int .i64 0) ∧ Mm w' p q B (h + n) ∧ Kept p q w w' := by
  unfold inH at hn
  rw [decide_eq_true_eq] at hn
  obtain ⟨t, ht⟩ : ∃ t, t = h + n := ⟨_, rfl⟩
  have HM := Lib.hid (m.give (h' := h + n) hn.1 hn.2)
  have HK := Lib.hid ((Kept.refl p q w).set (x := ⟨p, 1, none⟩) (Or.inl rfl) (.int .i64 (h + n)))
  have hs := Lib.hid (size_calls m)
  have b1 := m.hi
  have b2 := m.h0
  have b3 := m.h1
  have b4 := m.lo
  have hc := m.c1
  have hf := m.f1
  obtain ⟨L, hL⟩ : ∃ L, L = B.length := ⟨_, rfl⟩
  rw [← hL] at hs b1 b3 b4 hn
  obtain ⟨n1, n2⟩ := hn
  clear m hL ht t
  go_enter Try.func25, Try.ntmps25
  go_wp2_with ((with_reducible refine (hs.out).mono ?_); rintro e w' ⟨rfl, rfl⟩)
  go_ret
  exact ⟨rfl, HM.out, HK.out⟩
theorem allot_no {w : World} {p q : Nat} {B : List UInt8} {h : Int} (m : Mm w p q B h) (n : Int) (hI : I64 n) (hn : inH B.length h n = false) :
    Calls Try.prog 25 #[Pt p, .int .i64 n] w fun e w' => e = .returned (.int .i64 (-8)) ∧ w = w' := by
  unfold inH at hn
  rw [decide_eq_false_iff_not] at hn
  unfold I64 at hI
  have hs := Lib.hid (size_calls m)
  have b1 := m.hi
  have b2 := m.h0
  have b3 := m.h1
  have b4 := m.lo
  have hc := m.c1
  obtain ⟨L, hL⟩ : ∃ L, L = B.length := ⟨_, rfl⟩
  rw [← hL] at hs b1 b3 b4 hn
  obtain ⟨t, ht⟩ : ∃ t, wrap64 (h + n) = t := ⟨_, rfl⟩
  have h1 : t < 0 ∨ (L : Int) - 512 < t ∧ 0 ≤ t := by rw [← ht]; unfold wrap64; omega
  have b5 : -9223372036854775808 ≤ t ∧ t ≤ 9223372036854775807 := by rw [← ht]; unfold wrap64; omega
  clear m hL hn b2 b3 hI
  rcases h1 with h1 | ⟨h1, h2⟩
  · go_enter Try.func25, Try.ntmps25
    go_wp2_with ((with_reducible refine (hs.out).mono ?_); rintro e w' ⟨rfl, rfl⟩)
    go_ret
    exact ⟨rfl, rfl⟩
  · go_enter Try.func25, Try.ntmps25
    go_wp2_with ((with_reducible refine (hs.out).mono ?_); rintro e w' ⟨rfl, rfl⟩)
    go_ret
    exact ⟨rfl, rfl⟩
/-- How many bytes there are up to the next cell. -/
def upN (h : Int) : Int := (8 - h % 8) % 8
theorem align_calls {w : World} {p q : Nat} {B : List UInt8} {h x : Int} {R : World → Prop} (m : Mm w p q B h)
    (ha : Calls Try.prog 25 #[Pt p, .int .i64 (upN h)] w fun e w' => e = .returned (.int .i64 x) ∧ R w') :
    Calls Try.prog 27 #[Pt p] w fun e w' => e = .returned (.int .i64 x) ∧ R w' := by
  have hh := Lib.hid (here_calls m)
  have hA := Lib.hid ha
  have b1 := m.hi
  have b2 := m.h0
  have b3 := m.h1
  have b4 : h ≤ 65536 := by omega
  have hu : upN h = -(h % 8) % 8 := by unfold upN; omega
  rw [hu] at hA
  clear m ha b3 b1 hu
  go_enter Try.func27, Try.ntmps27
  go_wp2_with fail
  refine (hh.out).mono ?_
  rintro e w' ⟨rfl, rfl⟩
  have b5 : 0 ≤ h % 8 ∧ h % 8 < 8 := by omega
  go_wp2_with fail
  refine (hA.out).mono ?_
  rintro e w' ⟨rfl, hR⟩
  go_wp2_with fail
  go_ret
  exact ⟨rfl, hR⟩
theorem comma_off {w : World} {p q : Nat} {B : List UInt8} {h : Int} (m : Mm w p q B h) (x : Int) (h8 : h % 8 ≠ 0) :
    Calls Try.prog 28 #[Pt p, .int .i64 x] w fun e w' => e = .returned (.int .i64 (-23)) ∧ w = w' := by
  have hh := Lib.hid (here_calls m)
  have b1 := m.hi
  have b2 := m.h0
  have b3 := m.h1
  have b4 : h ≤ 65536 := by omega
  have b5 : (h % 8 == 0) = false := by rw [beq_eq_false_iff_ne]; exact h8
  clear m h8 b3 b1
  go_enter Try.func28, Try.ntmps28
  go_wp2_with ((with_reducible refine (hh.out).mono ?_); rintro e w' ⟨rfl, rfl⟩)
  go_ret
  exact ⟨rfl, rfl⟩
theorem comma_no {w : World} {p q : Nat} {B : List UInt8} {h : Int} (m : Mm w p q B h) (x : Int) (h8 : h % 8 = 0) (hn : inH B.length h 8 = false) :
    Calls Try.prog 28 #[Pt p, .int .i64 x] w fun e w' => e = .returned (.int .i64 (-8)) ∧ w = w' := by
  have hh := Lib.hid (here_calls m)
  have hA := Lib.hid (allot_no m 8 (by unfold I64; omega) hn)
  have b1 := m.hi
  have b2 := m.h0
  have b3 := m.h1
  have b4 : h ≤ 65536 := by omega
  have b5 : (h % 8 == 0) = true := by rw [beq_iff_eq]; exact h8
  clear m h8 b3 b1 hn
  go_enter Try.func28, Try.ntmps28
  go_wp2_with (first | ((with_reducible refine (hh.out).mono ?_); rintro e w' ⟨rfl, rfl⟩) | ((with_reducible refine (hA.out).mono ?_); rintro e w' ⟨rfl, rfl⟩))
  go_ret
  exact ⟨rfl, rfl⟩
theorem comma_ok {w : World} {p q : Nat} {B : List UInt8} {h : Int} (m : Mm w p q B h) (x : Int) (hx : I64 x) (h8 : h % 8 = 0) (hn : inH B.length h 8 = true) :
    Calls Try.prog 28 #[Pt p, .int .i64 x] w fun e w' => e = .returned (.int .i64 0) ∧ Mm w' p q (splice B h.toNat (le8 x)) (h + 8) ∧ Kept p q w w' := by
  have hh := Lib.hid (here_calls m)
  have hA := Lib.hid (allot_ok m 8 hn)
  unfold inH at hn
  rw [decide_eq_true_eq] at hn
  have b1 := m.hi
  have b2 := m.h0
  have b3 := m.h1
  have b4 : h ≤ 65536 := by omega
  have b5 : (h % 8 == 0) = true := by rw [beq_iff_eq]; exact h8
  have hP : ∀ W, Mm W p q B (h + 8) → Calls Try.prog 18 #[Pt p, .int .i64 h, .int .i64 x] W fun e w' => e = .returned (.int .i64 0) ∧ Mm w' p q (splice B h.toNat (le8 x)) (h + 8) ∧ Kept p q W w' := fun W hm => by
    have := put_ok hm h.toNat x hx (by omega) (by omega)
    rw [Int.toNat_of_nonneg b2] at this
    exact this
  have HP := Lib.hid hP
  clear m h8 b3 b1 hn hP
  go_enter Try.func28, Try.ntmps28
  go_wp2_with fail
  refine (hh.out).mono ?_
  rintro e w' ⟨rfl, rfl⟩
  go_wp2_with fail
  refine (hA.out).mono ?_
  rintro e w1 ⟨rfl, hm, hk⟩
  go_wp2_with fail
  refine (HP.out _ hm).mono ?_
  rintro e w2 ⟨rfl, hm2, hk2⟩
  go_wp2_with fail
  go_ret
  exact ⟨rfl, hm2, hk.trans hk2⟩
theorem ccomma_no {w : World} {p q : Nat} {B : List UInt8} {h : Int} (m : Mm w p q B h) (c : Int) (hn : inH B.length h 1 = false) :
    Calls Try.prog 29 #[Pt p, .int .u8 c] w fun e w' => e = .returned (.int .i64 (-8)) ∧ w = w' := by
  have hh := Lib.hid (here_calls m)
  have hA := Lib.hid (allot_no m 1 (by unfold I64; omega) hn)
  clear m hn
  go_enter Try.func29, Try.ntmps29
  go_wp2_with (first | ((with_reducible refine (hh.out).mono ?_); rintro e w' ⟨rfl, rfl⟩) | ((with_reducible refine (hA.out).mono ?_); rintro e w' ⟨rfl, rfl⟩))
  go_ret
  exact ⟨rfl, rfl⟩
theorem ccomma_ok {w : World} {p q : Nat} {B : List UInt8} {h : Int} (m : Mm w p q B h) (c : UInt8) (hn : inH B.length h 1 = true) :
    Calls Try.prog 29 #[Pt p, .int .u8 (c.toNat : Int)] w fun e w' => e = .returned (.int .i64 0) ∧ Mm w' p q (splice B h.toNat [c]) (h + 1) ∧ Kept p q w w' := by
  have hh := Lib.hid (here_calls m)
  have hA := Lib.hid (allot_ok m 1 hn)
  unfold inH at hn
  rw [decide_eq_true_eq] at hn
  have b2 := m.h0
  have b3 := m.h1
  have hP : ∀ W, Mm W p q B (h + 1) → Calls Try.prog 24 #[Pt p, .int .i64 h, .int .u8 (c.toNat : Int)] W fun e w' => e = .returned (.int .i64 0) ∧ Mm w' p q (splice B h.toNat [c]) (h + 1) ∧ Kept p q W w' := fun W hm => by
    have := putbyte_ok hm h.toNat c (by omega)
    rw [Int.toNat_of_nonneg b2] at this
    exact this
  have HP := Lib.hid hP
  clear m b3 hn hP
  go_enter Try.func29, Try.ntmps29
  go_wp2_with fail
  refine (hh.out).mono ?_
  rintro e w' ⟨rfl, rfl⟩
  go_wp2_with fail
  refine (hA.out).mono ?_
  rintro e w1 ⟨rfl, hm, hk⟩
  go_wp2_with fail
  refine (HP.out _ hm).mono ?_
  rintro e w2 ⟨rfl, hm2, hk2⟩
  go_wp2_with fail
  go_ret
  exact ⟨rfl, hm2, hk.trans hk2⟩
theorem comma_none (x : Int) (w : World) :
    Calls Try.prog 28 #[.pointer none, .int .i64 x] w fun e w' => e = .returned (.int .i64 2) ∧ w = w' := by
  have hh := Lib.hid (here_none w)
  have hA := Lib.hid (allot_none 8 w)
  go_enter Try.func28, Try.ntmps28
  go_wp2_with (first | ((with_reducible refine (hh.out).mono ?_); rintro e w' ⟨rfl, rfl⟩) | ((with_reducible refine (hA.out).mono ?_); rintro e w' ⟨rfl, rfl⟩))
  go_ret
  exact ⟨rfl, rfl⟩
/-- A new memory. -/
def zeros (n : Nat) : List UInt8 := List.replicate n 0
theorem new_no (n : Int) (w : World) (h : n < 1024 ∨ 65536 < n ∨ n % 8 ≠ 0) (hn : I64 n) :
    Calls Try.prog 11 #[.int .i64 n] w fun e w' => e = .returned (.tuple #[.pointer none, .int .i64 1]) ∧ w = w' := by
  unfold I64 at hn
  by_cases h1 : n < 1024
  · clear h
    go_enter Try.func11, Try.ntmps11
    go_wp2
    go_ret2
    exact ⟨rfl, rfl⟩
  by_cases h2 : 65536 < n
  · clear h
    go_enter Try.func11, Try.ntmps11
    go_wp2
    go_ret2
    exact ⟨rfl, rfl⟩
  have h3 : (n % 8 == 0) = false := by rw [beq_eq_false_iff_ne]; omega
  clear h
  go_enter Try.func11, Try.ntmps11
  go_wp2
  go_ret2
  exact ⟨rfl, rfl⟩
theorem zeros_mm (w : World) (n : Nat) (t t2 : TypeId) (h0 : 1024 ≤ n) (h1 : n ≤ 65536) :
    Mm ((w.alloc (.cells (Array.replicate n (.int .u8 0)) t)).alloc (.cells #[.slice (some ⟨w.heap.size, 0, none⟩) n n, .int .i64 0] t2)) (w.heap.size + 1) w.heap.size (zeros n) 0 := by
  have hl : (zeros n).length = n := List.length_replicate
  have hb1 : ((w.alloc (.cells (Array.replicate n (.int .u8 0)) t)).alloc (.cells #[.slice (some ⟨w.heap.size, 0, none⟩) n n, .int .i64 0] t2)).heap[w.heap.size + 1]? = some (.cells #[.slice (some ⟨w.heap.size, 0, none⟩) n n, .int .i64 0] t2) := by
    have := (MapKept.heap_alloc (w.alloc (.cells (Array.replicate n (.int .u8 0)) t)) (.cells #[.slice (some ⟨w.heap.size, 0, none⟩) n n, .int .i64 0] t2)).1
    rwa [size_alloc] at this
  have hb0 : ((w.alloc (.cells (Array.replicate n (.int .u8 0)) t)).alloc (.cells #[.slice (some ⟨w.heap.size, 0, none⟩) n n, .int .i64 0] t2)).heap[w.heap.size]? = some (.cells (Array.replicate n (.int .u8 0)) t) := by
    rw [Below.heap_alloc _ _ _ (by rw [size_alloc]; omega)]
    exact (MapKept.heap_alloc w _).1
  refine ⟨?_, ?_, ?_, fun i hi => ?_, fun i => ?_, by omega, by rw [size_alloc, size_alloc]; omega, by rw [size_alloc, size_alloc]; omega, by omega, by omega, by omega, by omega⟩
  · simp only [World.cell?, hb1, hl]; rfl
  · simp only [World.cell?, hb1]; rfl
  · simp only [World.frozen?, hb1]; rfl
  · have hi' : i < n := by omega
    simp only [World.cell?, hb0]
    simp [zeros, hi']
  · simp only [World.frozen?, hb0]
    simp
theorem made_zeros (n : Nat) : madeCells #[.int .u8 0] (n * 1) = Array.replicate n (.int .u8 0) := by
  apply Array.toList_inj.1
  rw [toList_madeCells_one]
  simp
theorem Try.infoByte : (Try.prog.info? 5).map (fun i => (i.zero, i.size, i.bytes)) = some (some (.int .u8 0), 1, 1) := by kernel_rfl
theorem make_zeros (w : World) (n : Nat) (h : n ≤ 65536) : (Instr.makeSlice 38 (.int .i64 (n : Int)) (.int .i64 (n : Int))).run Try.prog w = .ok (.slice (some ⟨w.heap.size, 0, none⟩) n n) (w.alloc (.cells (Array.replicate n (.int .u8 0)) 5)) := by
  obtain ⟨i, hi, hz0, hz1, hz2⟩ := info_parts Try.infoByte
  have := run_make (P := Try.prog) w 38 5 i (.int .u8 0) Try.underlying38 hi hz0 .i64 .i64 n n (by omega) (Int.le_refl _) (by rw [hz2]; omega) (by omega)
  rw [this, hz1]
  simp only [Int.toNat_natCast]
  rw [← made_zeros n]
  rfl
def Fresh (w : World) (n : Nat) (e : Ending) (w' : World) : Prop := ∃ p q, e = .returned (.tuple #[Pt p, .int .i64 0]) ∧ Mm w' p q (zeros n) 0 ∧ Ext w w' ∧ w.heap.size ≤ p ∧ w.heap.size ≤ q
theorem new_ok (n : Nat) (w : World) (h0 : 1024 ≤ n) (h1 : n ≤ 65536) (h8 : n % 8 = 0) :
    Calls Try.prog 11 #[.int .i64 (n : Int)] w (Fresh w n) := by
  have hm := Lib.hid (zeros_mm w n 5 69 h0 h1)
  have hx := Lib.hid (((Ext.refl w).cells (Array.replicate n (.int .u8 0)) 5).cells #[.slice (some ⟨w.heap.size, 0, none⟩) n n, .int .i64 0] 69)
  have hmk := make_zeros w n h1
  have b3 : ((n : Int) % 8 == 0) = true := by rw [beq_iff_eq]; omega
  have b4 : ((n : Int) % 8 != 0) = false := by unfold bne; rw [b3]; rfl
  clear h8
  go_enter Try.func11, Try.ntmps11
  go_wp2
  go_ret2
  exact ⟨_, _, rfl, hm.out, hx.out, by omega, by omega⟩
end Go.Proofs.Ytahnbllmgalgpaa
