/- A memory of bytes among the call's own blocks: a block of two cells (a slice, a number), and a block of bytes. Plain words on worlds and lists. No condition. Layer 5 (package mem): size, here, and the part of the bytes that a place and a number tell. Conditions: the block is a memory (Mm). Layer 5 (package mem): cells and bytes are put. Conditions: the block is a memory (Mm). Layer 5 (package mem): bytes are given out; cells and bytes are put behind those. Conditions: the block is a memory (Mm). Rows of bytes of a call's own, nil at first, that are appended to and told as a text. Condition: they are short of 1000000000 bytes. Rows of texts of a call's own, nil at first, that are appended to. Condition: they are short of 1000000000 texts. -/
import Derived.Laws.IdiomCopy
import Derived.Lib.LazyBuf
import Derived.Test.YtifnkmddinoneaaGreatDoorCBAI
import Derived.Test.YtifnkmddinoneaaGreatDoorCBAA
import Derived.Laws.BytesArg
import Derived.Laws.IdiomStrings
import Derived.Lib.AppendStr
set_option maxRecDepth 100000
namespace Go.Proofs.YtifnkmddinoneaaGreatDoor
open Go.RowKit
set_option linter.unusedVariables false

/-- B with l in place of what lies from place o on. -/
def splice (B : List UInt8) (o : Nat) (l : List UInt8) : List UInt8 := B.take o ++ l ++ B.drop (o + l.length)
theorem splice_len {B : List UInt8} {o : Nat} {l : List UInt8} (h : o + l.length ≤ B.length) : (splice B o l).length = B.length := by
  unfold splice; simp; omega
theorem splice_nil (B : List UInt8) (o : Nat) : splice B o [] = B := by simp [splice]
theorem splice_get {B : List UInt8} {o : Nat} {l : List UInt8} (h : o + l.length ≤ B.length) (i : Nat) :
    (splice B o l)[i]? = if o ≤ i ∧ i < o + l.length then l[i - o]? else B[i]? := by
  unfold splice
  have ht : (B.take o).length = o := by simp; omega
  by_cases h1 : i < o
  · rw [if_neg (by omega), List.append_assoc, List.getElem?_append_left (by omega), List.getElem?_take, if_pos h1]
  · by_cases h2 : i < o + l.length
    · rw [if_pos (by omega), List.getElem?_append_left (by simp; omega), List.getElem?_append_right (by omega), ht]
    · rw [if_neg (by omega), List.getElem?_append_right (by simp; omega), List.getElem?_drop]
      congr 1
      simp only [List.length_append, ht]
      omega
theorem splice_set {B : List UInt8} {o : Nat} {l : List UInt8} {k : Nat} (hk : k < l.length) (h : o + l.length ≤ B.length) :
    (splice B o (l.take k)).set (o + k) l[k] = splice B o (l.take (k + 1)) := by
  have lk : (l.take k).length = k := by simp; omega
  have lk1 : (l.take (k + 1)).length = k + 1 := by simp; omega
  have hl1 := splice_len (B := B) (o := o) (l := l.take k) (by omega)
  apply List.ext_getElem?
  intro i
  rw [splice_get (by omega), lk1, List.getElem?_set, hl1, splice_get (by omega), lk]
  by_cases h1 : o + k = i
  · rw [if_pos h1, if_pos (by omega), if_pos (by omega), ← h1, show o + k - o = k by omega, List.getElem?_take, if_pos (by omega), List.getElem?_eq_getElem hk]
  · rw [if_neg h1]
    by_cases h2 : o ≤ i ∧ i < o + k
    · rw [if_pos h2, if_pos (by omega), List.getElem?_take, List.getElem?_take, if_pos (by omega), if_pos (by omega)]
    · rw [if_neg h2, if_neg (by omega)]
structure Mm (w : World) (p q : Nat) (B : List UInt8) (h : Int) : Prop where
  c0 : w.cell? ⟨p, 0, none⟩ = some (.slice (some ⟨q, 0, none⟩) B.length B.length)
  c1 : w.cell? ⟨p, 1, none⟩ = some (.int .i64 h)
  f1 : w.frozen? ⟨p, 1, none⟩ = false
  bs : ∀ i (hi : i < B.length), w.cell? ⟨q, i, none⟩ = some (.int .u8 (B[i].toNat : Int))
  fb : ∀ i, w.frozen? ⟨q, i, none⟩ = false
  ne : p ≠ q
  lp : p < w.heap.size
  lq : q < w.heap.size
  lo : 1024 ≤ B.length
  hi : B.length ≤ 65536
  h0 : 0 ≤ h
  h1 : h ≤ (B.length : Int) - 512
structure Kept (p q : Nat) (w w' : World) : Prop where
  os : w'.os = w.os
  tape : w'.tape = w.tape
  output : w'.output = w.output
  size : w.heap.size ≤ w'.heap.size
  block : ∀ k, k < w.heap.size → k ≠ p → k ≠ q → w'.heap[k]? = w.heap[k]?
  frozen : ∀ a, w'.frozen? a = w.frozen? a
theorem Kept.refl (p q : Nat) (w : World) : Kept p q w w := ⟨rfl, rfl, rfl, Nat.le_refl _, fun _ _ _ _ => rfl, fun _ => rfl⟩
theorem Kept.trans {p q : Nat} {a b c : World} (h : Kept p q a b) (k : Kept p q b c) : Kept p q a c :=
  ⟨k.os.trans h.os, k.tape.trans h.tape, k.output.trans h.output, Nat.le_trans h.size k.size, fun i hi x y => (k.block i (Nat.lt_of_lt_of_le hi h.size) x y).trans (h.block i hi x y), fun a => (k.frozen a).trans (h.frozen a)⟩
theorem Kept.set {p q : Nat} {a b : World} (h : Kept p q a b) {x : Addr} (hx : x.block = p ∨ x.block = q) (v : Value) : Kept p q a (b.setCell x v) :=
  h.trans ⟨rfl, rfl, rfl, by simp [World.setCell], fun k _ h1 h2 => Below.heap_setCell _ _ _ _ (by rcases hx with h | h <;> rw [h] <;> assumption), fun _ => World.frozen?_setCell _ _ _ _⟩
theorem cell_of_heap {w w' : World} {b o : Nat} (h : w'.heap[b]? = w.heap[b]?) : w'.cell? ⟨b, o, none⟩ = w.cell? ⟨b, o, none⟩ := World.cell?_of_block (a := ⟨b, o, none⟩) h
theorem Mm.give {w : World} {p q : Nat} {B : List UInt8} {h : Int} (m : Mm w p q B h) {h' : Int} (h0 : 0 ≤ h') (h1 : h' ≤ (B.length : Int) - 512) : Mm (w.setCell ⟨p, 1, none⟩ (.int .i64 h')) p q B h' := by
  have n0 : (⟨p, 1, none⟩ : Addr) ≠ ⟨p, 0, none⟩ := by simp
  have hb : (w.setCell ⟨p, 1, none⟩ (.int .i64 h')).heap[q]? = w.heap[q]? := Below.heap_setCell _ _ _ _ (Ne.symm m.ne)
  have hs : (w.setCell ⟨p, 1, none⟩ (.int .i64 h')).heap.size = w.heap.size := by simp [World.setCell]
  exact ⟨by rw [World.cell?_setCell_other (h := n0)]; exact m.c0, World.cell?_setCell_same _ _ _ (h := m.c1), (World.frozen?_setCell _ _ _ _).trans m.f1, fun i hi => (cell_of_heap hb).trans (m.bs i hi), fun i => (World.frozen?_setCell _ _ _ _).trans (m.fb i), m.ne, by rw [hs]; exact m.lp, by rw [hs]; exact m.lq, m.lo, m.hi, h0, h1⟩
theorem Mm.put {w : World} {p q : Nat} {B : List UInt8} {h : Int} (m : Mm w p q B h) (i : Nat) (hi : i < B.length) (c : UInt8) : Mm (w.setCell ⟨q, i, none⟩ (.int .u8 (c.toNat : Int))) p q (B.set i c) h := by
  have hb : (w.setCell ⟨q, i, none⟩ (.int .u8 (c.toNat : Int))).heap[p]? = w.heap[p]? := Below.heap_setCell _ _ _ _ m.ne
  have hs : (w.setCell ⟨q, i, none⟩ (.int .u8 (c.toNat : Int))).heap.size = w.heap.size := by simp [World.setCell]
  have hl : (B.set i c).length = B.length := by simp
  refine ⟨by rw [hl]; exact (cell_of_heap hb).trans m.c0, (cell_of_heap hb).trans m.c1, (World.frozen?_setCell _ _ _ _).trans m.f1, fun j hj => ?_, fun i => (World.frozen?_setCell _ _ _ _).trans (m.fb i), m.ne, by rw [hs]; exact m.lp, by rw [hs]; exact m.lq, by rw [hl]; exact m.lo, by rw [hl]; exact m.hi, m.h0, by rw [hl]; exact m.h1⟩
  by_cases hij : i = j
  · subst hij
    rw [World.cell?_setCell_same _ _ _ (h := m.bs i hi)]
    simp
  · have hne : (⟨q, i, none⟩ : Addr) ≠ ⟨q, j, none⟩ := by simp
    rw [World.cell?_setCell_other (h := hne), m.bs j (by simpa using hj)]
    simp [hij]
end Go.Proofs.YtifnkmddinoneaaGreatDoor
namespace Go.Proofs.YtifnkmddinoneaaGreatDoor
open Go.RowKit
set_option linter.unusedVariables false

def inB (n at_ k : Int) : Bool := decide (0 ≤ at_ ∧ 0 ≤ k ∧ at_ ≤ n - k)
def pam (o k : Nat) : Nat := if k = 0 then 0 else o
theorem size_calls {w : World} {p q : Nat} {B : List UInt8} {h : Int} (m : Mm w p q B h) :
    Calls Tryz.prog 125 #[Pt p] w fun e w' => e = .returned (.int .i64 (B.length : Int)) ∧ w = w' := by
  have c0 := m.c0
  go_enter Tryz.func125, Tryz.ntmps125
  go_wp2
  go_ret
  exact ⟨rfl, rfl⟩
theorem here_calls {w : World} {p q : Nat} {B : List UInt8} {h : Int} (m : Mm w p q B h) :
    Calls Tryz.prog 68 #[Pt p] w fun e w' => e = .returned (.int .i64 h) ∧ w = w' := by
  have c1 := m.c1
  go_enter Tryz.func68, Tryz.ntmps68
  go_wp2
  go_ret
  exact ⟨rfl, rfl⟩
theorem part_no {w : World} {p q : Nat} {B : List UInt8} {h : Int} (m : Mm w p q B h) (a n : Int) (ha : I64 a) (hn : I64 n) (ho : inB B.length a n = false) :
    Calls Tryz.prog 261 #[Pt p, .int .i64 a, .int .i64 n] w fun e w' => e = .returned (.tuple #[.slice none 0 0, .int .i64 (-9)]) ∧ w = w' := by
  have hs := Lib.hid (size_calls m)
  have hhi := m.hi
  obtain ⟨L, hL⟩ : ∃ L, L = B.length := ⟨_, rfl⟩
  rw [← hL] at hs hhi ho
  unfold I64 at ha hn
  unfold inB at ho
  rw [decide_eq_false_iff_not] at ho
  clear hL m
  by_cases h1 : a < 0
  · clear ho
    go_enter Tryz.func261, Tryz.ntmps261
    go_wp2_with fail
    go_ret2
    exact ⟨rfl, rfl⟩
  by_cases h2 : n < 0
  · clear ho
    go_enter Tryz.func261, Tryz.ntmps261
    go_wp2_with fail
    go_ret2
    exact ⟨rfl, rfl⟩
  have h3 : (L : Int) - n < a := by omega
  clear ho
  go_enter Tryz.func261, Tryz.ntmps261
  go_wp2_with ((with_reducible refine (hs.out).mono ?_); rintro e w' ⟨rfl, rfl⟩)
  go_ret2
  exact ⟨rfl, rfl⟩
theorem part_ok {w : World} {p q : Nat} {B : List UInt8} {h : Int} (m : Mm w p q B h) (o k : Nat) (ho : o + k ≤ B.length) :
    Calls Tryz.prog 261 #[Pt p, .int .i64 (o : Int), .int .i64 (k : Int)] w fun e w' => e = .returned (.tuple #[.slice (some ⟨q, pam o k, none⟩) k k, .int .i64 0]) ∧ w = w' := by
  have hs := Lib.hid (size_calls m)
  have hhi := m.hi
  have c0 := m.c0
  obtain ⟨L, hL⟩ : ∃ L, L = B.length := ⟨_, rfl⟩
  rw [← hL] at hs hhi ho c0
  clear hL m
  by_cases h0 : k = 0
  · subst h0
    go_enter Tryz.func261, Tryz.ntmps261
    go_wp2_with ((with_reducible refine (hs.out).mono ?_); rintro e w' ⟨rfl, rfl⟩)
    go_ret2
    exact ⟨rfl, rfl⟩
  · have hpa : pam o k = o := if_neg h0
    rw [hpa]
    clear hpa
    go_enter Tryz.func261, Tryz.ntmps261
    go_wp2_with ((with_reducible refine (hs.out).mono ?_); rintro e w' ⟨rfl, rfl⟩)
    go_ret2
    exact ⟨by show Ending.returned (.tuple #[.slice (some ⟨q, o, none⟩) (o + k - o) (o + k - o), .int .i64 0]) = _; rw [Nat.add_sub_cancel_left], rfl⟩
theorem part_lit {w : World} {p q : Nat} {B : List UInt8} {h : Int} (m : Mm w p q B h) (o k : Nat) (n : Int) (hn : n = (k : Int)) (ho : o + k ≤ B.length) :
    Calls Tryz.prog 261 #[Pt p, .int .i64 (o : Int), .int .i64 n] w fun e w' => e = .returned (.tuple #[.slice (some ⟨q, pam o k, none⟩) k k, .int .i64 0]) ∧ w = w' := by
  subst hn
  exact part_ok m o k ho
theorem cellat_off {w : World} {p q : Nat} {B : List UInt8} {h : Int} (m : Mm w p q B h) (o : Nat) (ho : o + 8 ≤ B.length) (h8 : o % 8 ≠ 0) :
    Calls Tryz.prog 126 #[Pt p, .int .i64 (o : Int)] w fun e w' => e = .returned (.tuple #[.slice none 0 0, .int .i64 (-23)]) ∧ w = w' := by
  have hp := Lib.hid (part_lit m o 8 8 rfl ho)
  have hhi := m.hi
  have b1 : (o : Int) ≤ 65536 := by omega
  have b2 : ((o : Int) % 8 == 0) = false := by rw [beq_eq_false_iff_ne]; omega
  clear m ho hhi h8
  go_enter Tryz.func126, Tryz.ntmps126
  go_wp2_with ((with_reducible refine (hp.out).mono ?_); rintro e w' ⟨rfl, rfl⟩)
  go_ret2
  exact ⟨rfl, rfl⟩
theorem cellat_ok {w : World} {p q : Nat} {B : List UInt8} {h : Int} (m : Mm w p q B h) (o : Nat) (ho : o + 8 ≤ B.length) (h8 : o % 8 = 0) :
    Calls Tryz.prog 126 #[Pt p, .int .i64 (o : Int)] w fun e w' => e = .returned (.tuple #[.slice (some ⟨q, o, none⟩) 8 8, .int .i64 0]) ∧ w = w' := by
  have hp := Lib.hid (part_lit m o 8 8 rfl ho)
  have hhi := m.hi
  have b1 : (o : Int) ≤ 65536 := by omega
  have b2 : ((o : Int) % 8 == 0) = true := by rw [beq_iff_eq]; omega
  clear m ho hhi h8
  go_enter Tryz.func126, Tryz.ntmps126
  go_wp2_with ((with_reducible refine (hp.out).mono ?_); rintro e w' ⟨rfl, rfl⟩)
  go_ret2
  exact ⟨rfl, rfl⟩
end Go.Proofs.YtifnkmddinoneaaGreatDoor
namespace Go.Proofs.YtifnkmddinoneaaGreatDoor
open Go.RowKit
set_option linter.unusedVariables false

theorem put_err (v : Value) (a y x : Int) (w : World) (hc : Calls Tryz.prog 126 #[v, .int .i64 a] w fun e w' => e = .returned (.tuple #[.slice none 0 0, .int .i64 x]) ∧ w = w') :
    Calls Tryz.prog 70 #[v, .int .i64 a, .int .i64 y] w fun e w' => e = .returned (.int .i64 x) ∧ w = w' := by
  have hp := Lib.hid hc
  clear hc
  go_enter Tryz.func70, Tryz.ntmps70
  go_wp2_with ((with_reducible refine (hp.out).mono ?_); rintro e w' ⟨rfl, rfl⟩)
  go_loop [18] (fun i => i = .int .i64 0) (fun i => 0)
  case atStart => exact rfl
  case round =>
    obtain rfl := hrel
    go_wp2
    go_ret
    exact ⟨rfl, rfl⟩
theorem mput_ok {w : World} {p q : Nat} {B : List UInt8} {h : Int} (m : Mm w p q B h) (o : Nat) (x : Int) (hx : I64 x) (ho : o + 8 ≤ B.length) (h8 : o % 8 = 0) :
    Calls Tryz.prog 70 #[Pt p, .int .i64 (o : Int), .int .i64 x] w fun e w' => e = .returned (.int .i64 0) ∧ Mm w' p q (splice B o (le8 x)) h ∧ Kept p q w w' := by
  have HP := Lib.hid (cellat_ok m o ho h8)
  have HB := Lib.hid (fun i hi => byte_of x hx i hi)
  have HI := Lib.hid hx
  have m0 : Mm w p q (splice B o ((le8 x).take 0)) h := by rw [List.take_zero, splice_nil]; exact m
  have hk0 := Kept.refl p q w
  clear m h8 hx
  have hl := le8_len x
  obtain ⟨l, hle⟩ : ∃ l, l = le8 x := ⟨_, rfl⟩
  have HG := Lib.hid (fun (i : Nat) (h : i < (le8 x).length) => le8_get x i h)
  rw [← hle] at hl HG m0 ⊢
  have HL := Lib.hid hl
  clear hl hle
  go_enter Tryz.func70, Tryz.ntmps70
  go_wp2_with ((with_reducible refine (HP.out).mono ?_); rintro e w' ⟨rfl, rfl⟩)
  go_loopw [18] (fun i wr => ∃ k : Nat, k ≤ 8 ∧ i = .int .i64 k ∧ Mm wr p q (splice B o (l.take k)) h ∧ Kept p q w wr) (fun i _ => 8 - (intOf i).toNat)
  case atStart => exact ⟨0, by omega, rfl, m0, hk0⟩
  case round =>
    clear m0 hk0
    obtain ⟨k, hk, rfl, hm, hkp⟩ := hrel
    by_cases hlt : k < 8
    · have hlk : k < l.length := by rw [HL.out]; exact hlt
      have hs := splice_len (B := B) (o := o) (l := l.take k) (by simp; omega)
      have hc := hm.bs (o + k) (by omega)
      obtain ⟨y, hy⟩ : ∃ y, y = (((splice B o (l.take k))[o + k]'(by omega)).toNat : Int) := ⟨_, rfl⟩
      rw [← hy] at hc
      have hf := hm.fb (o + k)
      have hput := Lib.hid (hm.put (o + k) (by omega) l[k])
      have hset := Lib.hid (splice_set (B := B) (o := o) hlk (by rw [HL.out]; exact ho))
      have hkk := Lib.hid (hkp.set (x := ⟨q, o + k, none⟩) (Or.inr rfl) (.int .u8 (l[k].toNat : Int)))
      have hbx := HI.out
      unfold I64 at hbx
      clear hm hkp hy hs
      go_wp2
      go_roundw
      case rel =>
        have hv : x / 2 ^ (8 * k) % 256 = (l[k].toNat : Int) := by rw [HB.out k hlt, HG.out k hlk]
        rw [hv]
        exact ⟨k + 1, by omega, by go_num, hset.out ▸ hput.out, hkk.out⟩
      case measure => simp [intOf]; omega
    · have : k = 8 := by omega
      subst this
      clear hk hlt
      go_wp2
      go_ret
      rw [List.take_of_length_le (by rw [HL.out]; omega)] at hm
      exact ⟨rfl, hm, hkp⟩
end Go.Proofs.YtifnkmddinoneaaGreatDoor
namespace Go.Proofs.YtifnkmddinoneaaGreatDoor
open Go.RowKit
set_option linter.unusedVariables false
def inH (L h n : Int) : Bool := decide (0 ≤ h + n ∧ h + n ≤ L - 512)
theorem allot_ok {w : World} {p q : Nat} {B : List UInt8} {h : Int} (m : Mm w p q B h) (n : Int) (hn : inH B.length h n = true) :
    Calls Tryz.prog 69 #[Pt p, .int .i64 n] w fun e w' => e = .returned (.int .i64 0) ∧ Mm w' p q B (h + n) ∧ Kept p q w w' := by
  unfold inH at hn
  rw [decide_eq_true_eq] at hn
  obtain ⟨t, ht⟩ : ∃ t, t = h + n := ⟨_, rfl⟩
  have HM := Lib.hid (m.give (h' := h + n) hn.1 hn.2)
  have HK := Lib.hid ((Kept.refl p q w).set (x := ⟨p, 1, none⟩) (Or.inl rfl) (.int .i64 (h + n)))
  have hs := Lib.hid (size_calls m)
  have b1 := m.hi
  have b2 := m.h0
  have b3 := m.h1
  have b4 := m.lo
  have hc := m.c1
  have hf := m.f1
  obtain ⟨L, hL⟩ : ∃ L, L = B.length := ⟨_, rfl⟩
  rw [← hL] at hs b1 b3 b4 hn
  obtain ⟨n1, n2⟩ := hn
  clear m hL ht t
  go_enter Tryz.func69, Tryz.ntmps69
  go_wp2_with ((with_reducible refine (hs.out).mono ?_); rintro e w' ⟨rfl, rfl⟩)
  go_ret
  exact ⟨rfl, HM.out, HK.out⟩
def upM (h : Int) : Int := (8 - h % 8) % 8
theorem align_calls {w : World} {p q : Nat} {B : List UInt8} {h x : Int} {R : World → Prop} (m : Mm w p q B h)
    (ha : Calls Tryz.prog 69 #[Pt p, .int .i64 (upM h)] w fun e w' => e = .returned (.int .i64 x) ∧ R w') :
    Calls Tryz.prog 196 #[Pt p] w fun e w' => e = .returned (.int .i64 x) ∧ R w' := by
  have hh := Lib.hid (here_calls m)
  have hA := Lib.hid ha
  have b1 := m.hi
  have b2 := m.h0
  have b3 := m.h1
  have b4 : h ≤ 65536 := by omega
  have hu : upM h = -(h % 8) % 8 := by unfold upM; omega
  rw [hu] at hA
  clear m ha b3 b1 hu
  go_enter Tryz.func196, Tryz.ntmps196
  go_wp2_with fail
  refine (hh.out).mono ?_
  rintro e w' ⟨rfl, rfl⟩
  have b5 : 0 ≤ h % 8 ∧ h % 8 < 8 := by omega
  go_wp2_with fail
  refine (hA.out).mono ?_
  rintro e w' ⟨rfl, hR⟩
  go_wp2_with fail
  go_ret
  exact ⟨rfl, hR⟩
theorem comma_ok {w : World} {p q : Nat} {B : List UInt8} {h : Int} (m : Mm w p q B h) (x : Int) (hx : I64 x) (h8 : h % 8 = 0) (hn : inH B.length h 8 = true) :
    Calls Tryz.prog 46 #[Pt p, .int .i64 x] w fun e w' => e = .returned (.int .i64 0) ∧ Mm w' p q (splice B h.toNat (le8 x)) (h + 8) ∧ Kept p q w w' := by
  have hh := Lib.hid (here_calls m)
  have hA := Lib.hid (allot_ok m 8 hn)
  unfold inH at hn
  rw [decide_eq_true_eq] at hn
  have b1 := m.hi
  have b2 := m.h0
  have b3 := m.h1
  have b4 : h ≤ 65536 := by omega
  have b5 : (h % 8 == 0) = true := by rw [beq_iff_eq]; exact h8
  have hP : ∀ W, Mm W p q B (h + 8) → Calls Tryz.prog 70 #[Pt p, .int .i64 h, .int .i64 x] W fun e w' => e = .returned (.int .i64 0) ∧ Mm w' p q (splice B h.toNat (le8 x)) (h + 8) ∧ Kept p q W w' := fun W hm => by
    have := mput_ok hm h.toNat x hx (by omega) (by omega)
    rw [Int.toNat_of_nonneg b2] at this
    exact this
  have HP := Lib.hid hP
  clear m h8 b3 b1 hn hP
  go_enter Tryz.func46, Tryz.ntmps46
  go_wp2_with fail
  refine (hh.out).mono ?_
  rintro e w' ⟨rfl, rfl⟩
  go_wp2_with fail
  refine (hA.out).mono ?_
  rintro e w1 ⟨rfl, hm, hk⟩
  go_wp2_with fail
  refine (HP.out _ hm).mono ?_
  rintro e w2 ⟨rfl, hm2, hk2⟩
  go_wp2_with fail
  go_ret
  exact ⟨rfl, hm2, hk.trans hk2⟩
def zeros (n : Nat) : List UInt8 := List.replicate n 0
theorem zeros_mm (w : World) (n : Nat) (t t2 : TypeId) (h0 : 1024 ≤ n) (h1 : n ≤ 65536) :
    Mm ((w.alloc (.cells (Array.replicate n (.int .u8 0)) t)).alloc (.cells #[.slice (some ⟨w.heap.size, 0, none⟩) n n, .int .i64 0] t2)) (w.heap.size + 1) w.heap.size (zeros n) 0 := by
  have hl : (zeros n).length = n := List.length_replicate
  have hb1 : ((w.alloc (.cells (Array.replicate n (.int .u8 0)) t)).alloc (.cells #[.slice (some ⟨w.heap.size, 0, none⟩) n n, .int .i64 0] t2)).heap[w.heap.size + 1]? = some (.cells #[.slice (some ⟨w.heap.size, 0, none⟩) n n, .int .i64 0] t2) := by
    have := (MapKept.heap_alloc (w.alloc (.cells (Array.replicate n (.int .u8 0)) t)) (.cells #[.slice (some ⟨w.heap.size, 0, none⟩) n n, .int .i64 0] t2)).1
    rwa [size_alloc] at this
  have hb0 : ((w.alloc (.cells (Array.replicate n (.int .u8 0)) t)).alloc (.cells #[.slice (some ⟨w.heap.size, 0, none⟩) n n, .int .i64 0] t2)).heap[w.heap.size]? = some (.cells (Array.replicate n (.int .u8 0)) t) := by
    rw [Below.heap_alloc _ _ _ (by rw [size_alloc]; omega)]
    exact (MapKept.heap_alloc w _).1
  refine ⟨?_, ?_, ?_, fun i hi => ?_, fun i => ?_, by omega, by rw [size_alloc, size_alloc]; omega, by rw [size_alloc, size_alloc]; omega, by omega, by omega, by omega, by omega⟩
  · simp only [World.cell?, hb1, hl]; rfl
  · simp only [World.cell?, hb1]; rfl
  · simp only [World.frozen?, hb1]; rfl
  · have hi' : i < n := by omega
    simp only [World.cell?, hb0]
    simp [zeros, hi']
  · simp only [World.frozen?, hb0]
    simp
theorem made_zeros (n : Nat) : madeCells #[.int .u8 0] (n * 1) = Array.replicate n (.int .u8 0) := by
  apply Array.toList_inj.1
  rw [toList_madeCells_one]
  simp
theorem Tryz.infoByte : (Tryz.prog.info? 5).map (fun i => (i.zero, i.size, i.bytes)) = some (some (.int .u8 0), 1, 1) := by kernel_rfl
theorem make_zeros (w : World) (n : Nat) (h : n ≤ 65536) : (Instr.makeSlice 95 (.int .i64 (n : Int)) (.int .i64 (n : Int))).run Tryz.prog w = .ok (.slice (some ⟨w.heap.size, 0, none⟩) n n) (w.alloc (.cells (Array.replicate n (.int .u8 0)) 5)) := by
  obtain ⟨i, hi, hz0, hz1, hz2⟩ := info_parts Tryz.infoByte
  have := run_make (P := Tryz.prog) w 95 5 i (.int .u8 0) Tryz.underlying95 hi hz0 .i64 .i64 n n (by omega) (Int.le_refl _) (by rw [hz2]; omega) (by omega)
  rw [this, hz1]
  simp only [Int.toNat_natCast]
  rw [← made_zeros n]
  rfl
def Fresh (w : World) (n : Nat) (e : Ending) (w' : World) : Prop := ∃ p q, e = .returned (.tuple #[Pt p, .int .i64 0]) ∧ Mm w' p q (zeros n) 0 ∧ Ext w w' ∧ w.heap.size ≤ p ∧ w.heap.size ≤ q
set_option maxRecDepth 100000 in
theorem new_ok (n : Nat) (w : World) (h0 : 1024 ≤ n) (h1 : n ≤ 65536) (h8 : n % 8 = 0) :
    Calls Tryz.prog 45 #[.int .i64 (n : Int)] w (Fresh w n) := by
  have hm := Lib.hid (zeros_mm w n 5 136 h0 h1)
  have hx := Lib.hid (((Ext.refl w).cells (Array.replicate n (.int .u8 0)) 5).cells #[.slice (some ⟨w.heap.size, 0, none⟩) n n, .int .i64 0] 136)
  have hmk := make_zeros w n h1
  have b3 : ((n : Int) % 8 == 0) = true := by rw [beq_iff_eq]; omega
  have b4 : ((n : Int) % 8 != 0) = false := by unfold bne; rw [b3]; rfl
  clear h8
  go_enter Tryz.func45, Tryz.ntmps45
  go_wp2
  go_ret2
  exact ⟨_, _, rfl, hm.out, hx.out, by omega, by omega⟩
end Go.Proofs.YtifnkmddinoneaaGreatDoor
namespace Go.Proofs.YtifnkmddinoneaaGreatDoor
open Go.RowKit
set_option linter.unusedVariables false

def u8s (l : List UInt8) : List Value := l.map fun c => .int .u8 (c.toNat : Int)
theorem Mod.below_of {base : Nat} {w0 w w' : World} (h : Mod [] w0 w) (k : Below base w w') (hb : w0.heap.size ≤ base) : Mod [] w0 w' :=
  ⟨k.os.trans h.os, k.tape.trans h.tape, k.output.trans h.output, Nat.le_trans h.size k.size, fun i hi hn => (k.block i (by omega)).trans (h.block i hi hn)⟩
end Go.Proofs.YtifnkmddinoneaaGreatDoor
namespace Go.Proofs.YtifnkmddinoneaaGreatDoor
open Go.RowKit
set_option linter.unusedVariables false

def strV (l : List ByteArray) : List Value := l.map Value.string
def Sr (w : World) (base : Nat) (v : Value) (X : List ByteArray) : Prop := w.ownsRow base 9 1 v X.length (strV X)
theorem Sr.nil (w : World) (base : Nat) : Sr w base (.slice none 0 0) [] := ⟨rfl, .inl ⟨rfl, rfl⟩⟩
theorem Sr.far {w w' : World} {base : Nat} {v : Value} {X : List ByteArray} (h : Sr w base v X) (k : Mod [] w w') : Sr w' base v X := by
  refine ⟨h.1, h.2.elim Or.inl fun ⟨g, cap, cur, h1, h2, h3, h4⟩ => Or.inr ⟨g, cap, cur, h1, h2, ?_, h4⟩⟩
  rw [k.block g (Array.getElem?_eq_some_iff.1 h3).1 (by simp)]
  exact h3
theorem Tryz.infoStr : (Tryz.prog.info? 9).map (fun i => (i.zero, i.size, i.bytes)) = some (some (.string ⟨#[]⟩), 1, 16) := by kernel_rfl
theorem Sr.app1 {w : World} {base : Nat} {v : Value} {X : List ByteArray} (h : Sr w base v X) (hb : base ≤ w.heap.size) (hl : X.length ≤ 1000000000) (ty : TypeId) (a : Addr) (cp : Nat) (c : ByteArray) (hc : w.cell? (a.add 0) = some (.string c)) :
    ∃ v' w', (Builtin.append_ #[126, 126] ty #[v, .slice (some a) 1 cp]).run Tryz.prog w = .ok v' w' ∧ Sr w' base v' (X ++ [c]) ∧ Below base w w' := by
  obtain ⟨i, hi, hz0, hz1, hz2⟩ := info_parts Tryz.infoStr
  have hm : maxLen = 9223372036854775807 := rfl
  obtain ⟨v', w', h1, h2, h3, h4⟩ := run_append_own (P := Tryz.prog) w base 126 ty 9 i (.string ⟨#[]⟩) 1 16 Tryz.underlying126 hi hz0 hz1 hz2 rfl (by decide) _ _ _ h a 1 cp (strV [c]) (by simp [strV])
    (fun j u hj => by
      have hj' := (List.getElem?_eq_some_iff.1 hj).1
      have : j = 0 := by simpa [strV] using hj'
      subst this
      rw [hc, ← hj]; simp [strV]) (fun u hu => by obtain ⟨x, _, rfl⟩ := List.mem_map.1 hu; rfl) (by omega) (by omega) hb
  refine ⟨v', w', h1, ?_, ?_⟩
  · unfold Sr
    have e : (X ++ [c]).length = X.length + 1 := by simp
    have e2 : strV (X ++ [c]) = strV X ++ strV [c] := by simp [strV]
    rw [e, e2]
    exact h2
  · exact ⟨h3.os, h3.tape, h3.output, h3.size, fun k hk => h3.block k (Nat.lt_of_lt_of_le hk hb) fun e => by
      rcases h.2 with ⟨rfl, _⟩ | ⟨g, cap, cur, rfl, h2, _⟩
      · cases e
      · have e2 : k = g := by injection e
        omega⟩
theorem wpList_appT {w : World} {ops : Array Oper} {rest : List Oper} {o : Oper} {a : Act} {Q : Exit → Act → World → Prop} (hgd : o.guard = none) (s x : Operand)
    (ho : o.op = .call { callee := .builtin .append, args := #[s, x], argTypes := #[126, 126] })
    {base : Nat} {v : Value} {X : List ByteArray} (h : Sr w base v X) (hb : base ≤ w.heap.size) (hl : X.length ≤ 1000000000) (b : Addr) (cp : Nat) (c : ByteArray) (hc : w.cell? (b.add 0) = some (.string c))
    (v1 : a.eval s = v) (v2 : a.eval x = .slice (some b) 1 cp)
    (hK : ∀ v' w', Sr w' base v' (X ++ [c]) → Below base w w' → wpList Tryz.prog ops Q rest (a.put o.dst v') w') : wpList Tryz.prog ops Q (o :: rest) a w := by
  obtain ⟨v', w', hr, h2, h3⟩ := h.app1 hb hl o.type b cp c hc
  refine wpList_plain hgd fun K hk => ?_
  unfold Oper.wp execOp
  simp only [ho, resolve, invoke, builtin, Sem.run_bind, Sem.run_pure, Result.andThen_ok, List.map_toArray, List.map_cons, List.map_nil, v1, v2, hr]
  exact hk _ _ (hK v' w' h2 h3)
theorem Sr.opened {w : World} {base : Nat} {v : Value} {X : List ByteArray} (h : Sr w base v X) : ∃ A cap, v = .slice A X.length cap ∧ ∀ j (hj : j < X.length), ∃ b, A = some ⟨b, 0, none⟩ ∧ w.cell? ⟨b, j, none⟩ = some (.string X[j]) := by
  rcases h.2 with ⟨rfl, h0⟩ | ⟨g, cap, cur, rfl, h2, h3, h4⟩
  · exact ⟨none, 0, by rw [h0], fun j hj => by omega⟩
  · refine ⟨some ⟨g, 0, none⟩, cap, rfl, fun j hj => ⟨g, rfl, ?_⟩⟩
    have hown : w.ownsRow base 9 1 (.slice (some ⟨g, 0, none⟩) X.length cap) X.length (strV X) := h
    rw [hown.cellAt j (by omega)]
    simp [strV, hj]
theorem one_str (w : World) (c : ByteArray) (t : TypeId) : (w.alloc (.cells #[.string c] t)).cell? ((⟨w.heap.size, 0, none⟩ : Addr).add 0) = some (.string c) := by
  rw [WideShapes.add_plain, Nat.zero_add, World.cell?_alloc_new]
  rfl
end Go.Proofs.YtifnkmddinoneaaGreatDoor
