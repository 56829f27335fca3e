/- The document's answers for layer 5: bytes, texts, rows, what is given out. Conditions: the block is a memory (Mm). -/
import Derived.Test.YtahnbllmgalgpaaM5T
import Derived.RegionTactic
import Derived.BigRegion
namespace Go.Proofs.Ytahnbllmgalgpaa
open Go.RowKit
set_option linter.unusedVariables false

theorem rgetbyte_no {w : World} {p q : Nat} {B : List UInt8} {h : Int} (m : Mm w p q B h) (a : Int) (ha : I64 a) (ho : inB B.length a 1 = false) :
    Calls Try.prog 32 #[Pt p, .int .i64 a] w fun e w' => e = .returned (.tuple #[.int .u8 0, .int .i64 (-9)]) ∧ w = w' := by
  have hp := Lib.hid (rthere m a 1 ha (by unfold I64; omega) false ho)
  clear m ho ha
  go_enter Try.func32, Try.ntmps32
  go_wp2_with ((with_reducible refine (hp.out).mono ?_); rintro e w' ⟨rfl, rfl⟩)
  go_ret2
  exact ⟨rfl, rfl⟩
theorem rgetbyte_ok {w : World} {p q : Nat} {B : List UInt8} {h : Int} (m : Mm w p q B h) (o : Nat) (ho : o < B.length) :
    Calls Try.prog 32 #[Pt p, .int .i64 (o : Int)] w fun e w' => e = .returned (.tuple #[.int .u8 (B[o].toNat : Int), .int .i64 0]) ∧ w = w' := by
  have hb := m.hi
  have hp := Lib.hid (rthere m o 1 (by unfold I64; omega) (by unfold I64; omega) true (yesB (by omega)))
  have hc := m.bs o ho
  have c0 := m.c0
  obtain ⟨y, hy⟩ : ∃ y, y = B[o] := ⟨_, rfl⟩
  rw [← hy] at hc ⊢
  obtain ⟨L, hL⟩ : ∃ L, L = B.length := ⟨_, rfl⟩
  rw [← hL] at c0 ho hb
  clear m hy hL
  go_enter Try.func32, Try.ntmps32
  go_wp2_with ((with_reducible refine (hp.out).mono ?_); rintro e w' ⟨rfl, rfl⟩)
  go_ret2
  exact ⟨rfl, rfl⟩
theorem rputbyte_no {w : World} {p q : Nat} {B : List UInt8} {h : Int} (m : Mm w p q B h) (a c : Int) (ha : I64 a) (ho : inB B.length a 1 = false) :
    Calls Try.prog 33 #[Pt p, .int .i64 a, .int .u8 c] w fun e w' => e = .returned (.int .i64 (-9)) ∧ w = w' := by
  have hp := Lib.hid (rthere m a 1 ha (by unfold I64; omega) false ho)
  clear m ho ha
  go_enter Try.func33, Try.ntmps33
  go_wp2_with ((with_reducible refine (hp.out).mono ?_); rintro e w' ⟨rfl, rfl⟩)
  go_ret
  exact ⟨rfl, rfl⟩
theorem set_splice {B : List UInt8} {o : Nat} (c : UInt8) (h : o < B.length) : B.set o c = splice B o [c] := by
  have := splice_set (B := B) (o := o) (l := [c]) (k := 0) (by simp) (by simp; omega)
  simpa [splice_nil] using this
theorem rputbyte_ok {w : World} {p q : Nat} {B : List UInt8} {h : Int} (m : Mm w p q B h) (o : Nat) (c : UInt8) (ho : o < B.length) :
    Calls Try.prog 33 #[Pt p, .int .i64 (o : Int), .int .u8 (c.toNat : Int)] w fun e w' => e = .returned (.int .i64 0) ∧ Mm w' p q (splice B o [c]) h ∧ Kept p q w w' := by
  have hb := m.hi
  have hp := Lib.hid (rthere m o 1 (by unfold I64; omega) (by unfold I64; omega) true (yesB (by omega)))
  have hc := m.bs o ho
  have hf := m.fb o
  have c0 := m.c0
  have HM := Lib.hid (set_splice c ho ▸ m.put o ho c)
  have HK := Lib.hid ((Kept.refl p q w).set (x := ⟨q, o, none⟩) (Or.inr rfl) (.int .u8 (c.toNat : Int)))
  obtain ⟨y, hy⟩ : ∃ y, y = B[o] := ⟨_, rfl⟩
  rw [← hy] at hc
  obtain ⟨L, hL⟩ : ∃ L, L = B.length := ⟨_, rfl⟩
  rw [← hL] at c0 ho hb
  clear m hy hL
  go_enter Try.func33, Try.ntmps33
  go_wp2_with ((with_reducible refine (hp.out).mono ?_); rintro e w' ⟨rfl, rfl⟩)
  go_ret
  exact ⟨rfl, HM.out, HK.out⟩
theorem rtext_no {w : World} {p q : Nat} {B : List UInt8} {h : Int} (m : Mm w p q B h) (a n : Int) (ha : I64 a) (hn : I64 n) (ho : inB B.length a n = false) :
    Calls Try.prog 34 #[Pt p, .int .i64 a, .int .i64 n] w fun e w' => e = .returned (.tuple #[.string ⟨#[]⟩, .int .i64 (-9)]) ∧ w = w' := by
  have hp := Lib.hid (rthere m a n ha hn false ho)
  clear m ho ha hn
  go_enter Try.func34, Try.ntmps34
  go_wp2_with ((with_reducible refine (hp.out).mono ?_); rintro e w' ⟨rfl, rfl⟩)
  go_ret2
  exact ⟨rfl, rfl⟩
theorem slice_part (W : World) (q L o k : Nat) (h : o + k ≤ L) : ∃ A, (Instr.sliceAt 38 (.slice (some ⟨q, 0, none⟩) L L) (some (.int .i64 (o : Int))) (some (.int .i64 ((o : Int) + (k : Int)))) none).run Try.prog W = .ok (.slice A k (L - o)) W ∧ (0 < k → A = some ⟨q, o, none⟩) ∧ (k = 0 → ∃ x, A = some x) := by
  have ht : Try.prog.underlying 38 = some (.slice 5) := Try.underlying38
  have he : Try.prog.elem 38 = 5 := by simp [Program.elem, ht]
  have ht' : Try.prog.underlying 38 = some (.slice (Try.prog.elem 38)) := by rw [he]; exact ht
  refine ⟨if L = o then some ⟨q, 0, none⟩ else some ⟨q, o, none⟩, ?_, fun h0 => if_neg (by omega), fun _ => by split <;> exact ⟨_, rfl⟩⟩
  rw [run_sliceAt_slice W _ _ _ _ _ ht', run_slice_lh W _ _ L L ht' .i64 .i64 o ((o : Int) + (k : Int)) (by omega) (by omega) (by omega), he, Try.sizeByte]
  show Result.ok (sliced (some ⟨q, 0, none⟩) (o : Int).toNat ((o : Int) + (k : Int)).toNat L 1) W = _
  have e1 : (o : Int).toNat = o := Int.toNat_natCast o
  have e2 : ((o : Int) + (k : Int)).toNat = o + k := by omega
  rw [e1, e2]
  unfold sliced
  rw [Nat.add_sub_cancel_left]
  have e3 : (some (⟨q, 0, none⟩ : Addr)).map (fun x => x.add (o * 1)) = some ⟨q, o, none⟩ := by
    show some ((⟨q, 0, none⟩ : Addr).add (o * 1)) = _
    rw [Go.WideShapes.add_plain, Nat.mul_one, Nat.zero_add]
  rw [e3]
theorem rtext_ok {w : World} {p q : Nat} {B : List UInt8} {h : Int} (m : Mm w p q B h) (o n : Nat) (ho : o + n ≤ B.length) :
    Calls Try.prog 34 #[Pt p, .int .i64 (o : Int), .int .i64 (n : Int)] w fun e w' => e = .returned (.tuple #[.string (textB ((B.drop o).take n)), .int .i64 0]) ∧ w = w' := by
  have hb := m.hi
  have hp := Lib.hid (rthere m o n (by unfold I64; omega) (by unfold I64; omega) true (yesB (by omega)))
  have c0 := m.c0
  obtain ⟨A, hA, hA1, hA0⟩ := slice_part w q B.length o n ho
  have hcv : (convert 38 9 (.slice A n (B.length - o))).run Try.prog w = .ok (.string (textB ((B.drop o).take n))) w := by
    by_cases h0 : n = 0
    · subst h0
      obtain ⟨x, rfl⟩ := hA0 rfl
      exact run_convert_bytes_back (P := Try.prog) w 38 9 5 x (B.length - o) [] Try.underlying38 Try.underlying5 Try.underlying9 (fun j hj => absurd hj (by simp))
    · obtain rfl := hA1 (by omega)
      have := m.conv o n ho (B.length - o)
      rw [show pa o n = o from if_neg h0] at this
      exact this
  generalize textB ((B.drop o).take n) = T at *
  obtain ⟨L, hL⟩ : ∃ L, L = B.length := ⟨_, rfl⟩
  rw [← hL] at c0 ho hb hA hcv
  obtain ⟨M, hM⟩ : ∃ M, M = L - o := ⟨_, rfl⟩
  rw [← hM] at hA hcv
  clear m hL hA1 hA0 hM
  go_enter Try.func34, Try.ntmps34
  go_wp2_with ((with_reducible refine (hp.out).mono ?_); rintro e w' ⟨rfl, rfl⟩)
  go_ret2
  exact ⟨rfl, rfl⟩
theorem rwrite_no {w : World} {p q : Nat} {B : List UInt8} {h : Int} (m : Mm w p q B h) (a : Int) (s : ByteArray) (ha : I64 a) (hs : s.size ≤ maxLen) (ho : inB B.length a s.size = false) :
    Calls Try.prog 35 #[Pt p, .int .i64 a, .string s] w fun e w' => e = .returned (.int .i64 (-9)) ∧ w = w' := by
  unfold maxLen at hs
  have hp := Lib.hid (rthere m a s.size ha (by unfold I64; omega) false ho)
  clear m ho ha
  go_enter Try.func35, Try.ntmps35
  go_wp2_with ((with_reducible refine (hp.out).mono ?_); rintro e w' ⟨rfl, rfl⟩)
  go_ret
  exact ⟨rfl, rfl⟩
theorem rfill_no {w : World} {p q : Nat} {B : List UInt8} {h : Int} (m : Mm w p q B h) (a n c : Int) (ha : I64 a) (hn : I64 n) (ho : inB B.length a n = false) :
    Calls Try.prog 36 #[Pt p, .int .i64 a, .int .i64 n, .int .u8 c] w fun e w' => e = .returned (.int .i64 (-9)) ∧ w = w' := by
  have hp := Lib.hid (rthere m a n ha hn false ho)
  clear m ho ha hn
  go_enter Try.func36, Try.ntmps36
  go_wp2_with ((with_reducible refine (hp.out).mono ?_); rintro e w' ⟨rfl, rfl⟩)
  go_ret
  exact ⟨rfl, rfl⟩
theorem rfill_ok {w : World} {p q : Nat} {B : List UInt8} {h : Int} (m : Mm w p q B h) (o n : Nat) (c : UInt8) (ho : o + n ≤ B.length) :
    Calls Try.prog 36 #[Pt p, .int .i64 (o : Int), .int .i64 (n : Int), .int .u8 (c.toNat : Int)] w fun e w' => e = .returned (.int .i64 0) ∧ Mm w' p q (splice B o (List.replicate n c)) h ∧ Kept p q w w' := by
  have hhi := m.hi
  have HP := Lib.hid (rthere m o n (by unfold I64; omega) (by unfold I64; omega) true (yesB (by omega)))
  have m0 : Mm w p q (splice B o ((List.replicate n c).take 0)) h := by rw [List.take_zero, splice_nil]; exact m
  have hk0 := Kept.refl p q w
  clear m
  have HL := Lib.hid (List.length_replicate (n := n) (a := c))
  go_enter Try.func36, Try.ntmps36
  go_wp2_with ((with_reducible refine (HP.out).mono ?_); rintro e w' ⟨rfl, rfl⟩)
  go_loopw [9] (fun i wr => ∃ k : Nat, k ≤ n ∧ i = .int .i64 ((o : Int) + (k : Int)) ∧ Mm wr p q (splice B o ((List.replicate n c).take k)) h ∧ Kept p q w wr) (fun i _ => o + n - (intOf i).toNat)
  case atStart => exact ⟨0, by omega, by go_num, m0, hk0⟩
  case round =>
    clear m0 hk0
    obtain ⟨k, hk, rfl, hm, hkp⟩ := hrel
    by_cases hlt : k < n
    · have hlk : k < (List.replicate n c).length := by rw [HL.out]; exact hlt
      have hs := splice_len (B := B) (o := o) (l := (List.replicate n c).take k) (by simp; omega)
      have hc := hm.bs (o + k) (by omega)
      obtain ⟨y, hy⟩ : ∃ y, y = (((splice B o ((List.replicate n c).take k))[o + k]'(by omega)).toNat : Int) := ⟨_, rfl⟩
      rw [← hy] at hc
      have hf := hm.fb (o + k)
      have c0 := hm.c0
      rw [hs] at c0
      have hput := hm.put (o + k) (by omega) c
      have hset := splice_set (B := B) (o := o) hlk (by simp; omega)
      rw [List.getElem_replicate] at hset
      rw [hset] at hput
      have HM := Lib.hid hput
      have hkk := Lib.hid (hkp.set (x := ⟨q, o + k, none⟩) (Or.inr rfl) (.int .u8 (c.toNat : Int)))
      have q1 : (o : Int) + (k : Int) < (o : Int) + (n : Int) := by omega
      clear hm hkp hy hs hlk hput hset
      go_wp2
      go_roundw
      case rel => exact ⟨k + 1, by omega, by go_num, HM.out, hkk.out⟩
      case measure => simp [intOf]; omega
    · have : k = n := by omega
      subst this
      clear hk hlt
      go_wp2
      go_ret
      rw [List.take_of_length_le (by rw [HL.out]; omega)] at hm
      exact ⟨rfl, hm, hkp⟩
end Go.Proofs.Ytahnbllmgalgpaa
