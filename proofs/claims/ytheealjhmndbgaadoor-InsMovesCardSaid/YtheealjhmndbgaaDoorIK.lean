/- Layer 10: the table of operations; localsOf, has, isEnded. Condition: the table reads as the program's text lays it. -/
import Derived.Test.YtheealjhmndbgaaDoorIE
import Derived.BigQuiet
namespace Go.Proofs.YtheealjhmndbgaaDoor
open Go.RowKit
set_option linter.unusedVariables false

/-- Names and kinds of the operations. -/
def nameX (op : Nat) : List UInt8 := [[], [108, 105, 116], [99, 97, 108, 108], [106, 117, 109, 112], [122, 101, 114, 111], [100, 111], [113, 100, 111], [108, 111, 111, 112], [112, 108, 117, 115], [108, 101, 97, 118, 101], [111, 102], [100, 114, 111, 112], [108, 111, 99, 97, 108, 115], [108, 111, 99, 97, 108], [116, 111], [101, 120, 105, 116]].getD op []
def kindX (op : Nat) : Nat := [0, 0, 1, 2, 2, 0, 2, 2, 2, 2, 2, 0, 3, 4, 4, 0].getD op 0
theorem kind_le (op : Nat) : kindX op ≤ 4 := by
  by_cases h : op < 16
  · have : op ∈ List.range 16 := List.mem_range.2 h
    simp only [List.range, List.range.loop, List.mem_cons, List.not_mem_nil, or_false] at this
    rcases this with rfl | rfl | rfl | rfl | rfl | rfl | rfl | rfl | rfl | rfl | rfl | rfl | rfl | rfl | rfl | rfl <;> decide
  · unfold kindX
    rw [List.getD_eq_getElem?_getD, List.getElem?_eq_none (by simp; omega)]
    simp
/-- The table lies in block 0. -/
structure Good (w : World) : Prop where
  pos : 0 < w.heap.size
  n : ∀ op, op < 16 → w.cell? ⟨0, op * 2, none⟩ = some (.string (⟨(nameX op).toArray⟩ : ByteArray))
  k : ∀ op, op < 16 → w.cell? ⟨0, op * 2 + 1, none⟩ = some (.int .i64 (kindX op : Int))
theorem Good.far {w w' : World} (h : Good w) (m : Mod [] w w') : Good w' := ⟨Nat.lt_of_lt_of_le h.pos m.size, fun op ho => m.cell (by simp) (h.n op ho), fun op ho => m.cell (by simp) (h.k op ho)⟩
def locX (L : List Xi) : Int := match L with
  | x :: _ => if x.op = 12 then x.a else 0
  | [] => 0
theorem has_calls (w : World) (l m n : Int) : Calls Tryd.prog 31 #[.agg #[.int .i64 l, .int .i64 m], .int .i64 n] w fun e w' => e = .returned (.bool (decide (l ≤ n ∧ n ≤ m))) ∧ Mod [] w w' := by
  have hM := Mod.refl [] w
  by_cases h1 : l ≤ n
  · have h1b : decide (l ≤ n) = true := decide_eq_true h1
    obtain ⟨r, hr⟩ : ∃ r, r = decide (n ≤ m) := ⟨_, rfl⟩
    rw [show decide (l ≤ n ∧ n ≤ m) = r by rw [hr]; simp [h1]]
    have HR := Lib.hid hr
    have hrb := hr.symm
    clear h1 hr
    go_enter Tryd.func31, Tryd.ntmps31
    go_wp2
    go_ret
    exact ⟨by simp [*], hM.alloc _⟩
  · have h1b : decide (l ≤ n) = false := decide_eq_false h1
    rw [show decide (l ≤ n ∧ n ≤ m) = false from decide_eq_false fun h => h1 h.1]
    clear h1
    go_enter Tryd.func31, Tryd.ntmps31
    go_wp2
    go_ret
    exact ⟨by simp [*], hM.alloc _⟩
theorem locals_calls {w : World} {A : Option Addr} {n cap : Nat} {L : List Xi} (hL : InsAt w A L) (hn : n = L.length) (h0 : 0 < n) : Calls Tryd.prog 29 #[defV A n cap] w fun e w' => e = .returned (.int .i64 (locX L)) ∧ Mod [] w w' := by
  have hM := Mod.refl [] w
  cases L with
  | nil => subst hn; exact absurd h0 (by simp)
  | cons x r =>
    obtain ⟨B, off, rfl, hat0, hwx⟩ := hL.get (i := 0) (x := x) rfl
    have hat := hat0.far (hM.alloc (.cells #[.slice (some ⟨B, off, none⟩) n cap] 24))
    rw [Nat.zero_mul, Nat.add_zero] at hat
    have hc0 := hat.c0
    have hc1 := hat.c1
    have h0I : (0 : Int) < (n : Int) := by omega
    simp only [locX]
    clear hn hL hat hat0 hwx
    by_cases h : x.op = 12
    · have hb : ((x.op : Int) != 12) = false := by rw [h]; rfl
      rw [if_pos h]
      clear h
      go_enter Tryd.func29, Tryd.ntmps29
      go_wp2
      go_ret
      exact ⟨rfl, hM.alloc _⟩
    · have hb : ((x.op : Int) != 12) = true := by rw [bne_iff_ne]; omega
      rw [if_neg h]
      clear h
      go_enter Tryd.func29, Tryd.ntmps29
      go_wp2
      go_ret
      exact ⟨rfl, hM.alloc _⟩
/-- Nothing goes on behind the last one. -/
def endX (x : Xi) (v : Int) : Bool := decide (x.op = 3 ∨ (x.op = 15 ∧ v ≤ 0))
theorem ended_calls {w : World} {A : Option Addr} {n cap : Nat} {L : List Xi} {b : Nat} {o : List Int} {x : Xi} {v : Int} (hL : InsAt w A L) (hn : n = L.length) (h0 : 0 < n) (hb : n ≤ 1000000) (hv : Iv w b o) (hx : L[n - 1]? = some x) (ho : o[n - 1]? = some v) (hol : o.length = n) :
    Calls Tryd.prog 23 #[defV A n cap, .slice (some ⟨b, 0, none⟩) n n] w fun e w' => e = .returned (.bool (endX x v)) ∧ Mod [] w w' := by
  have hM := Mod.refl [] w
  obtain ⟨k, rfl⟩ : ∃ k, n = k + 1 := ⟨n - 1, by omega⟩
  rw [Nat.add_sub_cancel] at hx ho
  obtain ⟨B, off, rfl, hat0, hwx⟩ := hL.get hx
  have hm := hM.alloc (.cells #[.slice (some ⟨B, off, none⟩) (k + 1) cap] 24)
  have hat := hat0.far hm
  have hc0 := hat.c0
  have hcv := (hv.far hm).cell ho
  have hkI : (k : Int) ≤ 1000000 := by omega
  clear hn h0 hb hL hat hat0 hm hwx hv hx ho hol
  unfold endX
  by_cases h3 : x.op = 3
  · have hb : ((x.op : Int) == 3) = true := by rw [h3]; rfl
    rw [decide_eq_true (Or.inl h3)]
    clear h3
    go_enter Tryd.func23, Tryd.ntmps23
    go_wp2
    go_ret
    exact ⟨rfl, hM.alloc _⟩
  · have hb : ((x.op : Int) == 3) = false := by rw [beq_eq_false_iff_ne]; omega
    by_cases h15 : x.op = 15
    · have hb2 : ((x.op : Int) == 15) = true := by rw [h15]; rfl
      obtain ⟨r, hr⟩ : ∃ r, r = decide (v ≤ 0) := ⟨_, rfl⟩
      rw [show decide (x.op = 3 ∨ (x.op = 15 ∧ v ≤ 0)) = r by rw [hr]; simp [h15]]
      have hrb := hr.symm
      clear h3 h15 hr
      go_enter Tryd.func23, Tryd.ntmps23
      go_wp2
      go_ret
      exact ⟨by simp [*], hM.alloc _⟩
    · have hb2 : ((x.op : Int) == 15) = false := by rw [beq_eq_false_iff_ne]; omega
      rw [decide_eq_false (show ¬ (x.op = 3 ∨ (x.op = 15 ∧ v ≤ 0)) by omega)]
      clear h3 h15
      go_enter Tryd.func23, Tryd.ntmps23
      go_wp2
      go_ret
      exact ⟨rfl, hM.alloc _⟩
end Go.Proofs.YtheealjhmndbgaaDoor
