/- Layer 5: at each act the program's answer is the document's. Conditions: two memories of the same bytes; numbers are of their kinds. -/
import Derived.Test.YtahnbllmgalgpaaM5V
namespace Go.Proofs.Ytahnbllmgalgpaa
open Go.RowKit Go.ChangeShapes
set_option linter.unusedVariables false

/-- f at (the memory, xs) answers v and leaves the bytes B', h'. -/
def Turn (f : FuncId) (xs : List Value) (v : Value) (B : List UInt8) (h : Int) (B' : List UInt8) (h' : Int) : Prop :=
  ∀ W p q, Mm W p q B h → Calls Try.prog f (Pt p :: xs).toArray W fun e w' => e = .returned v ∧ Mm w' p q B' h' ∧ Kept p q W w'
def Tell (f : FuncId) (xs : List Value) (v : Value) (B : List UInt8) (h : Int) : Prop :=
  ∀ W p q, Mm W p q B h → Calls Try.prog f (Pt p :: xs).toArray W fun e w' => e = .returned v ∧ W = w'
theorem Turn.same {f : FuncId} {xs : List Value} {v : Value} {B : List UInt8} {h : Int} (k : Tell f xs v B h) : Turn f xs v B h B h := fun W p q m =>
  (k W p q m).mono fun e w' ⟨he, hw⟩ => ⟨he, hw ▸ m, hw ▸ Kept.refl p q W⟩
theorem both_get (B : List UInt8) (h a : Int) (ha : I64 a) : ∃ v e : Int, Tell 19 [.int .i64 a] (.tuple #[.int .i64 v, .int .i64 e]) B h ∧ Tell 30 [.int .i64 a] (.tuple #[.int .i64 v, .int .i64 e]) B h := by
  by_cases hi : 0 ≤ a ∧ (0 : Int) ≤ 8 ∧ a ≤ (B.length : Int) - 8
  · obtain ⟨o, rfl⟩ := Int.eq_ofNat_of_zero_le hi.1
    by_cases h8 : o % 8 = 0
    · exact ⟨_, 0, fun W p q m => get_ok m o (by omega) h8, fun W p q m => rget_ok m o (by omega) h8⟩
    · exact ⟨0, -23, fun W p q m => get_err (Pt p) o (-23) W (cellat_off m o (by omega) h8), fun W p q m => rget_off m o (by omega) h8⟩
  · exact ⟨0, -9, fun W p q m => get_err (Pt p) a (-9) W (cellat_no m a ha (noB hi)), fun W p q m => rget_no m a ha (noB hi)⟩
theorem both_put (B : List UInt8) (h a x : Int) (ha : I64 a) (hx : I64 x) : ∃ (e : Int) (B' : List UInt8), Turn 18 [.int .i64 a, .int .i64 x] (.int .i64 e) B h B' h ∧ Turn 31 [.int .i64 a, .int .i64 x] (.int .i64 e) B h B' h := by
  by_cases hi : 0 ≤ a ∧ (0 : Int) ≤ 8 ∧ a ≤ (B.length : Int) - 8
  · obtain ⟨o, rfl⟩ := Int.eq_ofNat_of_zero_le hi.1
    by_cases h8 : o % 8 = 0
    · exact ⟨0, _, fun W p q m => put_ok m o x hx (by omega) h8, fun W p q m => rput_ok m o x hx (by omega) h8⟩
    · exact ⟨-23, B, Turn.same fun W p q m => put_err (Pt p) o x (-23) W (cellat_off m o (by omega) h8), Turn.same fun W p q m => rput_err (Pt p) o x (-23) (by decide) W (rget_off m o (by omega) h8)⟩
  · exact ⟨-9, B, Turn.same fun W p q m => put_err (Pt p) a x (-9) W (cellat_no m a ha (noB hi)), Turn.same fun W p q m => rput_err (Pt p) a x (-9) (by decide) W (rget_no m a ha (noB hi))⟩
theorem one64 : I64 1 := by unfold I64; omega
theorem both_getbyte (B : List UInt8) (h a : Int) (ha : I64 a) : ∃ v e : Int, Tell 22 [.int .i64 a] (.tuple #[.int .u8 v, .int .i64 e]) B h ∧ Tell 32 [.int .i64 a] (.tuple #[.int .u8 v, .int .i64 e]) B h := by
  by_cases hi : 0 ≤ a ∧ (0 : Int) ≤ 1 ∧ a ≤ (B.length : Int) - 1
  · obtain ⟨o, rfl⟩ := Int.eq_ofNat_of_zero_le hi.1
    exact ⟨_, 0, fun W p q m => getbyte_ok m o (by omega), fun W p q m => rgetbyte_ok m o (by omega)⟩
  · exact ⟨0, -9, fun W p q m => getbyte_err (Pt p) a (-9) W (by decide) (part_no m a 1 ha one64 (noB hi)), fun W p q m => rgetbyte_no m a ha (noB hi)⟩
theorem both_putbyte (B : List UInt8) (h a : Int) (c : UInt8) (ha : I64 a) : ∃ (e : Int) (B' : List UInt8), Turn 24 [.int .i64 a, .int .u8 (c.toNat : Int)] (.int .i64 e) B h B' h ∧ Turn 33 [.int .i64 a, .int .u8 (c.toNat : Int)] (.int .i64 e) B h B' h := by
  by_cases hi : 0 ≤ a ∧ (0 : Int) ≤ 1 ∧ a ≤ (B.length : Int) - 1
  · obtain ⟨o, rfl⟩ := Int.eq_ofNat_of_zero_le hi.1
    exact ⟨0, _, fun W p q m => putbyte_ok m o c (by omega), fun W p q m => rputbyte_ok m o c (by omega)⟩
  · exact ⟨-9, B, Turn.same fun W p q m => putbyte_err (Pt p) a c.toNat (-9) W (part_no m a 1 ha one64 (noB hi)), Turn.same fun W p q m => rputbyte_no m a c.toNat ha (noB hi)⟩
theorem both_text (B : List UInt8) (h a n : Int) (ha : I64 a) (hn : I64 n) : ∃ (s : ByteArray) (e : Int), Tell 23 [.int .i64 a, .int .i64 n] (.tuple #[.string s, .int .i64 e]) B h ∧ Tell 34 [.int .i64 a, .int .i64 n] (.tuple #[.string s, .int .i64 e]) B h := by
  by_cases hi : 0 ≤ a ∧ 0 ≤ n ∧ a ≤ (B.length : Int) - n
  · obtain ⟨o, rfl⟩ := Int.eq_ofNat_of_zero_le hi.1
    obtain ⟨k, rfl⟩ := Int.eq_ofNat_of_zero_le hi.2.1
    exact ⟨_, 0, fun W p q m => text_ok m o k (by omega), fun W p q m => rtext_ok m o k (by omega)⟩
  · exact ⟨_, -9, fun W p q m => text_err (Pt p) a n (-9) W (part_no m a n ha hn (noB hi)), fun W p q m => rtext_no m a n ha hn (noB hi)⟩
theorem both_write (B : List UInt8) (h a : Int) (s : ByteArray) (ha : I64 a) (hs : s.size ≤ maxLen) : ∃ (e : Int) (B' : List UInt8), Turn 17 [.int .i64 a, .string s] (.int .i64 e) B h B' h ∧ Turn 35 [.int .i64 a, .string s] (.int .i64 e) B h B' h := by
  have hs2 := hs
  unfold maxLen at hs2
  by_cases hi : 0 ≤ a ∧ (0 : Int) ≤ (s.size : Int) ∧ a ≤ (B.length : Int) - (s.size : Int)
  · obtain ⟨o, rfl⟩ := Int.eq_ofNat_of_zero_le hi.1
    exact ⟨0, _, fun W p q m => write_ok m o s (by omega), fun W p q m => rwrite_ok m o s (by omega)⟩
  · exact ⟨-9, B, Turn.same fun W p q m => write_err (Pt p) a (-9) s hs W (part_no m a s.size ha (by unfold I64; omega) (noB hi)), Turn.same fun W p q m => rwrite_no m a s ha hs (noB hi)⟩
theorem both_fill (B : List UInt8) (h a n : Int) (c : UInt8) (ha : I64 a) (hn : I64 n) : ∃ (e : Int) (B' : List UInt8), Turn 21 [.int .i64 a, .int .i64 n, .int .u8 (c.toNat : Int)] (.int .i64 e) B h B' h ∧ Turn 36 [.int .i64 a, .int .i64 n, .int .u8 (c.toNat : Int)] (.int .i64 e) B h B' h := by
  by_cases hi : 0 ≤ a ∧ 0 ≤ n ∧ a ≤ (B.length : Int) - n
  · obtain ⟨o, rfl⟩ := Int.eq_ofNat_of_zero_le hi.1
    obtain ⟨k, rfl⟩ := Int.eq_ofNat_of_zero_le hi.2.1
    exact ⟨0, _, fun W p q m => fill_ok m o k c (by omega), fun W p q m => rfill_ok m o k c (by omega)⟩
  · exact ⟨-9, B, Turn.same fun W p q m => fill_err (Pt p) a n c.toNat (-9) W (part_no m a n ha hn (noB hi)), Turn.same fun W p q m => rfill_no m a n c.toNat ha hn (noB hi)⟩
theorem both_move (B : List UInt8) (h f a n : Int) (hf : I64 f) (ha : I64 a) (hn : I64 n) : ∃ (e : Int) (B' : List UInt8), Turn 20 [.int .i64 f, .int .i64 a, .int .i64 n] (.int .i64 e) B h B' h ∧ Turn 37 [.int .i64 f, .int .i64 a, .int .i64 n] (.int .i64 e) B h B' h := by
  by_cases hi : 0 ≤ f ∧ 0 ≤ n ∧ f ≤ (B.length : Int) - n
  · obtain ⟨g, rfl⟩ := Int.eq_ofNat_of_zero_le hi.1
    obtain ⟨k, rfl⟩ := Int.eq_ofNat_of_zero_le hi.2.1
    by_cases hj : 0 ≤ a ∧ (0 : Int) ≤ (k : Int) ∧ a ≤ (B.length : Int) - (k : Int)
    · obtain ⟨o, rfl⟩ := Int.eq_ofNat_of_zero_le hj.1
      exact ⟨0, _, fun W p q m => move_ok m g o k (by omega) (by omega), fun W p q m => rmove_ok m g o k (by omega) (by omega)⟩
    · exact ⟨-9, B, Turn.same fun W p q m => move_far m g k a ha (by omega) (noB hj), Turn.same fun W p q m => rmove_far m g k a ha (by omega) (noB hj)⟩
  · exact ⟨-9, B, Turn.same fun W p q m => move_err (Pt p) f a n (-9) W (by decide) (part_no m f n hf hn (noB hi)), Turn.same fun W p q m => rmove_no m f a n hf hn (noB hi)⟩
theorem both_allot (B : List UInt8) (h n : Int) (hn : I64 n) : ∃ (e h' : Int), Turn 25 [.int .i64 n] (.int .i64 e) B h B h' ∧ Turn 38 [.int .i64 n] (.int .i64 e) B h B h' := by
  cases hi : inH B.length h n with
  | true => exact ⟨0, _, fun W p q m => allot_ok m n hi, fun W p q m => rallot_ok m n hi⟩
  | false => exact ⟨-8, h, Turn.same fun W p q m => allot_no m n hn hi, Turn.same fun W p q m => rallot_no m n hn hi⟩
theorem upN64 (h : Int) : I64 (upN h) := by unfold I64 upN; omega
theorem both_align (B : List UInt8) (h : Int) : ∃ (e h' : Int), Turn 27 [] (.int .i64 e) B h B h' ∧ Turn 39 [] (.int .i64 e) B h B h' := by
  obtain ⟨e, h', k1, k2⟩ := both_allot B h (upN h) (upN64 h)
  exact ⟨e, h', fun W p q m => align_calls m (k1 W p q m), fun W p q m => ralign_calls m (k2 W p q m)⟩
theorem both_comma (B : List UInt8) (h x : Int) (hx : I64 x) : ∃ (e : Int) (B' : List UInt8) (h' : Int), Turn 28 [.int .i64 x] (.int .i64 e) B h B' h' ∧ Turn 40 [.int .i64 x] (.int .i64 e) B h B' h' := by
  by_cases h8 : h % 8 = 0
  · cases hi : inH B.length h 8 with
    | true => exact ⟨0, _, _, fun W p q m => comma_ok m x hx h8 hi, fun W p q m => rcomma_ok m x hx h8 hi⟩
    | false => exact ⟨-8, B, h, Turn.same fun W p q m => comma_no m x h8 hi, Turn.same fun W p q m => rcomma_no m x h8 hi⟩
  · exact ⟨-23, B, h, Turn.same fun W p q m => comma_off m x h8, Turn.same fun W p q m => rcomma_off m x h8⟩
theorem both_ccomma (B : List UInt8) (h : Int) (c : UInt8) : ∃ (e : Int) (B' : List UInt8) (h' : Int), Turn 29 [.int .u8 (c.toNat : Int)] (.int .i64 e) B h B' h' ∧ Turn 41 [.int .u8 (c.toNat : Int)] (.int .i64 e) B h B' h' := by
  cases hi : inH B.length h 1 with
  | true => exact ⟨0, _, _, fun W p q m => ccomma_ok m c hi, fun W p q m => rccomma_ok m c hi⟩
  | false => exact ⟨-8, B, h, Turn.same fun W p q m => ccomma_no m c.toNat hi, Turn.same fun W p q m => rccomma_no m c.toNat hi⟩
/-- Two memories of the same bytes, apart. -/
structure Two (w : World) (p q p2 q2 : Nat) (B : List UInt8) (h : Int) : Prop where
  m1 : Mm w p q B h
  m2 : Mm w p2 q2 B h
  a : p ≠ p2
  b : p ≠ q2
  c : q ≠ p2
  d : q ≠ q2
/-- What was there before a world w0 from which all four blocks are new stays. -/
def Fr (p q p2 q2 : Nat) (w w' : World) : Prop := ∀ w0, Ext w0 w → w0.heap.size ≤ p → w0.heap.size ≤ q → w0.heap.size ≤ p2 → w0.heap.size ≤ q2 → Ext w0 w'
def Did (w : World) (p q p2 q2 : Nat) (e : Ending) (w' : World) : Prop := e = .returned (.bool true) ∧ (∃ B' h', Two w' p q p2 q2 B' h') ∧ Fr p q p2 q2 w w'
/-- The block of an act. -/
structure Act4 (w : World) (b : Nat) (k x y z : Int) : Prop where
  c0 : w.cell? ⟨b, 0, none⟩ = some (.int .u8 k)
  c1 : w.cell? ⟨b, 1, none⟩ = some (.int .i64 x)
  c2 : w.cell? ⟨b, 2, none⟩ = some (.int .i64 y)
  c3 : w.cell? ⟨b, 3, none⟩ = some (.int .i64 z)
  lt : b < w.heap.size
theorem Act4.same {w w' : World} {b : Nat} {k x y z : Int} (h : Act4 w b k x y z) (hb : w'.heap[b]? = w.heap[b]?) (hs : w.heap.size ≤ w'.heap.size) : Act4 w' b k x y z :=
  ⟨(cell_of_heap hb).trans h.c0, (cell_of_heap hb).trans h.c1, (cell_of_heap hb).trans h.c2, (cell_of_heap hb).trans h.c3, Nat.lt_of_lt_of_le h.lt hs⟩
theorem Act4.kept {w w' : World} {b p q : Nat} {k x y z : Int} (h : Act4 w b k x y z) (hk : Kept p q w w') (hp : b ≠ p) (hq : b ≠ q) : Act4 w' b k x y z := h.same (hk.block b h.lt hp hq) hk.size
theorem Act4.drew {w : World} {b : Nat} {k x y z : Int} (h : Act4 w b k x y z) : Act4 w.drew b k x y z := h.same rfl (Nat.le_refl _)
theorem Act4.last (w : World) (k x y z : Int) (t : TypeId) : Act4 (w.alloc (.cells #[.int .u8 k, .int .i64 x, .int .i64 y, .int .i64 z] t)) w.heap.size k x y z :=
  ⟨by simp, by simp, by simp, by simp, by rw [size_alloc]; omega⟩
end Go.Proofs.Ytahnbllmgalgpaa
