/- Layer 10: the table of operations; localsOf, has, isEnded. Condition: the table reads as the program's text lays it. Layer 10: areFit. Condition: the table reads as the program's text lays it; there are at most 1000000 instructions. Layer 10: the program's May. Condition: the table reads as the program's text lays it; there are at most 1000000 instructions. Layer 10: rows of instructions of a call's own. Condition: they are short of 1000000. -/
import Derived.BigQuiet
import Derived.Test.YtifnkmddinoneaaGreatDoorCBAD
import Derived.Deep.CutRange
import Derived.Deep.DeepCutAuto
set_option maxRecDepth 100000
namespace Go.Proofs.YtifnkmddinoneaaGreatDoor.L10
open Go.RowKit
set_option linter.unusedVariables false

/-- Names and kinds of the operations. -/
def nameX (op : Nat) : List UInt8 := [[], [108, 105, 116], [99, 97, 108, 108], [106, 117, 109, 112], [122, 101, 114, 111], [100, 111], [113, 100, 111], [108, 111, 111, 112], [112, 108, 117, 115], [108, 101, 97, 118, 101], [111, 102], [100, 114, 111, 112], [108, 111, 99, 97, 108, 115], [108, 111, 99, 97, 108], [116, 111], [101, 120, 105, 116]].getD op []
def kindX (op : Nat) : Nat := [0, 0, 1, 2, 2, 0, 2, 2, 2, 2, 2, 0, 3, 4, 4, 0].getD op 0
theorem kind_le (op : Nat) : kindX op ≤ 4 := by
  by_cases h : op < 16
  · have : op ∈ List.range 16 := List.mem_range.2 h
    simp only [List.range, List.range.loop, List.mem_cons, List.not_mem_nil, or_false] at this
    rcases this with rfl | rfl | rfl | rfl | rfl | rfl | rfl | rfl | rfl | rfl | rfl | rfl | rfl | rfl | rfl | rfl <;> decide
  · unfold kindX
    rw [List.getD_eq_getElem?_getD, List.getElem?_eq_none (by simp; omega)]
    simp
structure Good (w : World) : Prop where
  pos : 0 < w.heap.size
  n : ∀ op, op < 16 → w.cell? ⟨0, op * 2, none⟩ = some (.string (⟨(nameX op).toArray⟩ : ByteArray))
  k : ∀ op, op < 16 → w.cell? ⟨0, op * 2 + 1, none⟩ = some (.int .i64 (kindX op : Int))
theorem Good.far {w w' : World} (h : Good w) (m : Mod [] w w') : Good w' := ⟨Nat.lt_of_lt_of_le h.pos m.size, fun op ho => m.cell (by simp) (h.n op ho), fun op ho => m.cell (by simp) (h.k op ho)⟩
def locX (L : List Xi) : Int := match L with
  | x :: _ => if x.op = 12 then x.a else 0
  | [] => 0
theorem has_calls (w : World) (l m n : Int) : Calls Tryz.prog 124 #[.agg #[.int .i64 l, .int .i64 m], .int .i64 n] w fun e w' => e = .returned (.bool (decide (l ≤ n ∧ n ≤ m))) ∧ Mod [] w w' := by
  have hM := Mod.refl [] w
  by_cases h1 : l ≤ n
  · have h1b : decide (l ≤ n) = true := decide_eq_true h1
    obtain ⟨r, hr⟩ : ∃ r, r = decide (n ≤ m) := ⟨_, rfl⟩
    rw [show decide (l ≤ n ∧ n ≤ m) = r by rw [hr]; simp [h1]]
    have HR := Lib.hid hr
    have hrb := hr.symm
    clear h1 hr
    go_enter Tryz.func124, Tryz.ntmps124
    go_wp2
    go_ret
    exact ⟨by simp [*], hM.alloc _⟩
  · have h1b : decide (l ≤ n) = false := decide_eq_false h1
    rw [show decide (l ≤ n ∧ n ≤ m) = false from decide_eq_false fun h => h1 h.1]
    clear h1
    go_enter Tryz.func124, Tryz.ntmps124
    go_wp2
    go_ret
    exact ⟨by simp [*], hM.alloc _⟩
theorem locals_calls {w : World} {A : Option Addr} {n cap : Nat} {L : List Xi} (hL : InsAt w A L) (hn : n = L.length) (h0 : 0 < n) : Calls Tryz.prog 122 #[defV A n cap] w fun e w' => e = .returned (.int .i64 (locX L)) ∧ Mod [] w w' := by
  have hM := Mod.refl [] w
  cases L with
  | nil => subst hn; exact absurd h0 (by simp)
  | cons x r =>
    obtain ⟨B, off, rfl, hat0, hwx⟩ := hL.get (i := 0) (x := x) rfl
    have hat := hat0.far (hM.alloc (.cells #[.slice (some ⟨B, off, none⟩) n cap] 24))
    rw [Nat.zero_mul, Nat.add_zero] at hat
    have hc0 := hat.c0
    have hc1 := hat.c1
    have h0I : (0 : Int) < (n : Int) := by omega
    simp only [locX]
    clear hn hL hat hat0 hwx
    by_cases h : x.op = 12
    · have hb : ((x.op : Int) != 12) = false := by rw [h]; rfl
      rw [if_pos h]
      clear h
      go_enter Tryz.func122, Tryz.ntmps122
      go_wp2
      go_ret
      exact ⟨rfl, hM.alloc _⟩
    · have hb : ((x.op : Int) != 12) = true := by rw [bne_iff_ne]; omega
      rw [if_neg h]
      clear h
      go_enter Tryz.func122, Tryz.ntmps122
      go_wp2
      go_ret
      exact ⟨rfl, hM.alloc _⟩
def endX (x : Xi) (v : Int) : Bool := decide (x.op = 3 ∨ (x.op = 15 ∧ v ≤ 0))
theorem ended_calls {w : World} {A : Option Addr} {n cap : Nat} {L : List Xi} {b : Nat} {o : List Int} {x : Xi} {v : Int} (hL : InsAt w A L) (hn : n = L.length) (h0 : 0 < n) (hb : n ≤ 1000000) (hv : Iv w b o) (hx : L[n - 1]? = some x) (ho : o[n - 1]? = some v) (hol : o.length = n) :
    Calls Tryz.prog 64 #[defV A n cap, .slice (some ⟨b, 0, none⟩) n n] w fun e w' => e = .returned (.bool (endX x v)) ∧ Mod [] w w' := by
  have hM := Mod.refl [] w
  obtain ⟨k, rfl⟩ : ∃ k, n = k + 1 := ⟨n - 1, by omega⟩
  rw [Nat.add_sub_cancel] at hx ho
  obtain ⟨B, off, rfl, hat0, hwx⟩ := hL.get hx
  have hm := hM.alloc (.cells #[.slice (some ⟨B, off, none⟩) (k + 1) cap] 24)
  have hat := hat0.far hm
  have hc0 := hat.c0
  have hcv := (hv.far hm).cell ho
  have hkI : (k : Int) ≤ 1000000 := by omega
  clear hn h0 hb hL hat hat0 hm hwx hv hx ho hol
  unfold endX
  by_cases h3 : x.op = 3
  · have hb : ((x.op : Int) == 3) = true := by rw [h3]; rfl
    rw [decide_eq_true (Or.inl h3)]
    clear h3
    go_enter Tryz.func64, Tryz.ntmps64
    go_wp2
    go_ret
    exact ⟨rfl, hM.alloc _⟩
  · have hb : ((x.op : Int) == 3) = false := by rw [beq_eq_false_iff_ne]; omega
    by_cases h15 : x.op = 15
    · have hb2 : ((x.op : Int) == 15) = true := by rw [h15]; rfl
      obtain ⟨r, hr⟩ : ∃ r, r = decide (v ≤ 0) := ⟨_, rfl⟩
      rw [show decide (x.op = 3 ∨ (x.op = 15 ∧ v ≤ 0)) = r by rw [hr]; simp [h15]]
      have hrb := hr.symm
      clear h3 h15 hr
      go_enter Tryz.func64, Tryz.ntmps64
      go_wp2
      go_ret
      exact ⟨by simp [*], hM.alloc _⟩
    · have hb2 : ((x.op : Int) == 15) = false := by rw [beq_eq_false_iff_ne]; omega
      rw [decide_eq_false (show ¬ (x.op = 3 ∨ (x.op = 15 ∧ v ≤ 0)) by omega)]
      clear h3 h15
      go_enter Tryz.func64, Tryz.ntmps64
      go_wp2
      go_ret
      exact ⟨rfl, hM.alloc _⟩
end Go.Proofs.YtifnkmddinoneaaGreatDoor.L10
namespace Go.Proofs.YtifnkmddinoneaaGreatDoor.L10
open Go.RowKit
set_option linter.unusedVariables false

/-- From which number to which A may be, of each kind. -/
def spanX (loc n words : Int) (k : Nat) : Int × Int := if k = 0 then (0, 0) else if k = 1 then (1, words) else if k = 2 then (0, n - 1) else if k = 3 then (1, 16) else (0, wrap64 (loc - 1))
def fitX (loc n words : Int) (i : Nat) (x : Xi) : Bool := isOpX x.op && decide ((spanX loc n words (kindX x.op)).1 ≤ x.a ∧ x.a ≤ (spanX loc n words (kindX x.op)).2) && !(decide (x.op = 12) && decide (0 < i)) && (decide (x.op = 1) || decide (x.w = 0))
def FitAll (L : List Xi) (words : Int) : Prop := ∀ i x, L[i]? = some x → fitX (locX L) L.length words i x = true
def TellsF (L : List Xi) (words : Int) (w : World) (e : Ending) (w' : World) : Prop := ∃ r : Bool, e = .returned (.bool r) ∧ (r = true ↔ FitAll L words) ∧ Mod [] w w'
def SpanAt (w : World) (p : Nat) (loc n words : Int) : Prop := ∀ k, k ≤ 4 → w.cell? ⟨p, k * 2, none⟩ = some (.int .i64 (spanX loc n words k).1) ∧ w.cell? ⟨p, k * 2 + 1, none⟩ = some (.int .i64 (spanX loc n words k).2)
theorem SpanAt.far {w w' : World} {p : Nat} {loc n words : Int} (h : SpanAt w p loc n words) (m : Mod [] w w') : SpanAt w' p loc n words := fun k hk => ⟨m.cell (by simp) (h k hk).1, m.cell (by simp) (h k hk).2⟩
theorem span_new (w : World) (loc n words m : Int) (hm : m = wrap64 (loc - 1)) (t : TypeId) : SpanAt (w.alloc (.cells #[.int .i64 0, .int .i64 0, .int .i64 1, .int .i64 words, .int .i64 0, .int .i64 (n - 1), .int .i64 1, .int .i64 16, .int .i64 0, .int .i64 m] t)) w.heap.size loc n words := fun k hk => by
  subst hm
  rw [World.cell?_alloc_new, World.cell?_alloc_new]
  match k, hk with
  | 0, _ => exact ⟨rfl, rfl⟩
  | 1, _ => exact ⟨rfl, rfl⟩
  | 2, _ => exact ⟨rfl, rfl⟩
  | 3, _ => exact ⟨rfl, rfl⟩
  | 4, _ => exact ⟨rfl, rfl⟩
structure Z10 (w : World) (p : Nat) : Prop where
  c0 : w.cell? ⟨p, 0, none⟩ = some (.int .i64 0)
  c1 : w.cell? ⟨p, 1, none⟩ = some (.int .i64 0)
  c2 : w.cell? ⟨p, 2, none⟩ = some (.int .i64 0)
  c3 : w.cell? ⟨p, 3, none⟩ = some (.int .i64 0)
  c4 : w.cell? ⟨p, 4, none⟩ = some (.int .i64 0)
  c5 : w.cell? ⟨p, 5, none⟩ = some (.int .i64 0)
  c6 : w.cell? ⟨p, 6, none⟩ = some (.int .i64 0)
  c7 : w.cell? ⟨p, 7, none⟩ = some (.int .i64 0)
  c8 : w.cell? ⟨p, 8, none⟩ = some (.int .i64 0)
  c9 : w.cell? ⟨p, 9, none⟩ = some (.int .i64 0)
  f0 : w.frozen? ⟨p, 0, none⟩ = false
  f1 : w.frozen? ⟨p, 1, none⟩ = false
  f2 : w.frozen? ⟨p, 2, none⟩ = false
  f3 : w.frozen? ⟨p, 3, none⟩ = false
  f4 : w.frozen? ⟨p, 4, none⟩ = false
  f5 : w.frozen? ⟨p, 5, none⟩ = false
  f6 : w.frozen? ⟨p, 6, none⟩ = false
  f7 : w.frozen? ⟨p, 7, none⟩ = false
  f8 : w.frozen? ⟨p, 8, none⟩ = false
  f9 : w.frozen? ⟨p, 9, none⟩ = false
  hp : w.heap[p]? = some (.cells #[.int .i64 0, .int .i64 0, .int .i64 0, .int .i64 0, .int .i64 0, .int .i64 0, .int .i64 0, .int .i64 0, .int .i64 0, .int .i64 0] 165 (0, 0))
theorem Z10.of {w : World} {p : Nat} (hp : w.heap[p]? = some (.cells #[.int .i64 0, .int .i64 0, .int .i64 0, .int .i64 0, .int .i64 0, .int .i64 0, .int .i64 0, .int .i64 0, .int .i64 0, .int .i64 0] 165 (0, 0))) : Z10 w p := by
  have hc : ∀ k, k < 10 → w.cell? ⟨p, k, none⟩ = some (.int .i64 0) := fun k hk => by
    simp only [World.cell?, hp]
    match k, hk with
    | 0, _ | 1, _ | 2, _ | 3, _ | 4, _ | 5, _ | 6, _ | 7, _ | 8, _ | 9, _ => rfl
  have hf : ∀ k, w.frozen? ⟨p, k, none⟩ = false := fun k => by simp only [World.frozen?, hp]; rfl
  exact ⟨hc 0 (by decide), hc 1 (by decide), hc 2 (by decide), hc 3 (by decide), hc 4 (by decide), hc 5 (by decide), hc 6 (by decide), hc 7 (by decide), hc 8 (by decide), hc 9 (by decide), hf 0, hf 1, hf 2, hf 3, hf 4, hf 5, hf 6, hf 7, hf 8, hf 9, hp⟩
theorem span_stored {w : World} {p : Nat} (z : Z10 w p) (words n m loc : Int) (hm : m = wrap64 (loc - 1)) : SpanAt ((((((((((w.setCell ⟨p, 0, none⟩ (.int .i64 0)).setCell ⟨p, 1, none⟩ (.int .i64 0)).setCell ⟨p, 2, none⟩ (.int .i64 1)).setCell ⟨p, 3, none⟩ (.int .i64 words)).setCell ⟨p, 4, none⟩ (.int .i64 0)).setCell ⟨p, 5, none⟩ (.int .i64 (n - 1))).setCell ⟨p, 6, none⟩ (.int .i64 1)).setCell ⟨p, 7, none⟩ (.int .i64 16)).setCell ⟨p, 8, none⟩ (.int .i64 0)).setCell ⟨p, 9, none⟩ (.int .i64 m)) p loc n words := by
  have h0 : (w.setCell ⟨p, 0, none⟩ (.int .i64 0)).heap[p]? = some (.cells #[.int .i64 0, .int .i64 0, .int .i64 0, .int .i64 0, .int .i64 0, .int .i64 0, .int .i64 0, .int .i64 0, .int .i64 0, .int .i64 0] 165 (0, 0)) := heap_setCell_same w p 0 _ _ _ z.hp
  have h1 : ((w.setCell ⟨p, 0, none⟩ (.int .i64 0)).setCell ⟨p, 1, none⟩ (.int .i64 0)).heap[p]? = some (.cells #[.int .i64 0, .int .i64 0, .int .i64 0, .int .i64 0, .int .i64 0, .int .i64 0, .int .i64 0, .int .i64 0, .int .i64 0, .int .i64 0] 165 (0, 0)) := heap_setCell_same (w.setCell ⟨p, 0, none⟩ (.int .i64 0)) p 1 _ _ _ h0
  have h2 : (((w.setCell ⟨p, 0, none⟩ (.int .i64 0)).setCell ⟨p, 1, none⟩ (.int .i64 0)).setCell ⟨p, 2, none⟩ (.int .i64 1)).heap[p]? = some (.cells #[.int .i64 0, .int .i64 0, .int .i64 1, .int .i64 0, .int .i64 0, .int .i64 0, .int .i64 0, .int .i64 0, .int .i64 0, .int .i64 0] 165 (0, 0)) := heap_setCell_same ((w.setCell ⟨p, 0, none⟩ (.int .i64 0)).setCell ⟨p, 1, none⟩ (.int .i64 0)) p 2 _ _ _ h1
  have h3 : ((((w.setCell ⟨p, 0, none⟩ (.int .i64 0)).setCell ⟨p, 1, none⟩ (.int .i64 0)).setCell ⟨p, 2, none⟩ (.int .i64 1)).setCell ⟨p, 3, none⟩ (.int .i64 words)).heap[p]? = some (.cells #[.int .i64 0, .int .i64 0, .int .i64 1, .int .i64 words, .int .i64 0, .int .i64 0, .int .i64 0, .int .i64 0, .int .i64 0, .int .i64 0] 165 (0, 0)) := heap_setCell_same (((w.setCell ⟨p, 0, none⟩ (.int .i64 0)).setCell ⟨p, 1, none⟩ (.int .i64 0)).setCell ⟨p, 2, none⟩ (.int .i64 1)) p 3 _ _ _ h2
  have h4 : (((((w.setCell ⟨p, 0, none⟩ (.int .i64 0)).setCell ⟨p, 1, none⟩ (.int .i64 0)).setCell ⟨p, 2, none⟩ (.int .i64 1)).setCell ⟨p, 3, none⟩ (.int .i64 words)).setCell ⟨p, 4, none⟩ (.int .i64 0)).heap[p]? = some (.cells #[.int .i64 0, .int .i64 0, .int .i64 1, .int .i64 words, .int .i64 0, .int .i64 0, .int .i64 0, .int .i64 0, .int .i64 0, .int .i64 0] 165 (0, 0)) := heap_setCell_same ((((w.setCell ⟨p, 0, none⟩ (.int .i64 0)).setCell ⟨p, 1, none⟩ (.int .i64 0)).setCell ⟨p, 2, none⟩ (.int .i64 1)).setCell ⟨p, 3, none⟩ (.int .i64 words)) p 4 _ _ _ h3
  have h5 : ((((((w.setCell ⟨p, 0, none⟩ (.int .i64 0)).setCell ⟨p, 1, none⟩ (.int .i64 0)).setCell ⟨p, 2, none⟩ (.int .i64 1)).setCell ⟨p, 3, none⟩ (.int .i64 words)).setCell ⟨p, 4, none⟩ (.int .i64 0)).setCell ⟨p, 5, none⟩ (.int .i64 (n - 1))).heap[p]? = some (.cells #[.int .i64 0, .int .i64 0, .int .i64 1, .int .i64 words, .int .i64 0, .int .i64 (n - 1), .int .i64 0, .int .i64 0, .int .i64 0, .int .i64 0] 165 (0, 0)) := heap_setCell_same (((((w.setCell ⟨p, 0, none⟩ (.int .i64 0)).setCell ⟨p, 1, none⟩ (.int .i64 0)).setCell ⟨p, 2, none⟩ (.int .i64 1)).setCell ⟨p, 3, none⟩ (.int .i64 words)).setCell ⟨p, 4, none⟩ (.int .i64 0)) p 5 _ _ _ h4
  have h6 : (((((((w.setCell ⟨p, 0, none⟩ (.int .i64 0)).setCell ⟨p, 1, none⟩ (.int .i64 0)).setCell ⟨p, 2, none⟩ (.int .i64 1)).setCell ⟨p, 3, none⟩ (.int .i64 words)).setCell ⟨p, 4, none⟩ (.int .i64 0)).setCell ⟨p, 5, none⟩ (.int .i64 (n - 1))).setCell ⟨p, 6, none⟩ (.int .i64 1)).heap[p]? = some (.cells #[.int .i64 0, .int .i64 0, .int .i64 1, .int .i64 words, .int .i64 0, .int .i64 (n - 1), .int .i64 1, .int .i64 0, .int .i64 0, .int .i64 0] 165 (0, 0)) := heap_setCell_same ((((((w.setCell ⟨p, 0, none⟩ (.int .i64 0)).setCell ⟨p, 1, none⟩ (.int .i64 0)).setCell ⟨p, 2, none⟩ (.int .i64 1)).setCell ⟨p, 3, none⟩ (.int .i64 words)).setCell ⟨p, 4, none⟩ (.int .i64 0)).setCell ⟨p, 5, none⟩ (.int .i64 (n - 1))) p 6 _ _ _ h5
  have h7 : ((((((((w.setCell ⟨p, 0, none⟩ (.int .i64 0)).setCell ⟨p, 1, none⟩ (.int .i64 0)).setCell ⟨p, 2, none⟩ (.int .i64 1)).setCell ⟨p, 3, none⟩ (.int .i64 words)).setCell ⟨p, 4, none⟩ (.int .i64 0)).setCell ⟨p, 5, none⟩ (.int .i64 (n - 1))).setCell ⟨p, 6, none⟩ (.int .i64 1)).setCell ⟨p, 7, none⟩ (.int .i64 16)).heap[p]? = some (.cells #[.int .i64 0, .int .i64 0, .int .i64 1, .int .i64 words, .int .i64 0, .int .i64 (n - 1), .int .i64 1, .int .i64 16, .int .i64 0, .int .i64 0] 165 (0, 0)) := heap_setCell_same (((((((w.setCell ⟨p, 0, none⟩ (.int .i64 0)).setCell ⟨p, 1, none⟩ (.int .i64 0)).setCell ⟨p, 2, none⟩ (.int .i64 1)).setCell ⟨p, 3, none⟩ (.int .i64 words)).setCell ⟨p, 4, none⟩ (.int .i64 0)).setCell ⟨p, 5, none⟩ (.int .i64 (n - 1))).setCell ⟨p, 6, none⟩ (.int .i64 1)) p 7 _ _ _ h6
  have h8 : (((((((((w.setCell ⟨p, 0, none⟩ (.int .i64 0)).setCell ⟨p, 1, none⟩ (.int .i64 0)).setCell ⟨p, 2, none⟩ (.int .i64 1)).setCell ⟨p, 3, none⟩ (.int .i64 words)).setCell ⟨p, 4, none⟩ (.int .i64 0)).setCell ⟨p, 5, none⟩ (.int .i64 (n - 1))).setCell ⟨p, 6, none⟩ (.int .i64 1)).setCell ⟨p, 7, none⟩ (.int .i64 16)).setCell ⟨p, 8, none⟩ (.int .i64 0)).heap[p]? = some (.cells #[.int .i64 0, .int .i64 0, .int .i64 1, .int .i64 words, .int .i64 0, .int .i64 (n - 1), .int .i64 1, .int .i64 16, .int .i64 0, .int .i64 0] 165 (0, 0)) := heap_setCell_same ((((((((w.setCell ⟨p, 0, none⟩ (.int .i64 0)).setCell ⟨p, 1, none⟩ (.int .i64 0)).setCell ⟨p, 2, none⟩ (.int .i64 1)).setCell ⟨p, 3, none⟩ (.int .i64 words)).setCell ⟨p, 4, none⟩ (.int .i64 0)).setCell ⟨p, 5, none⟩ (.int .i64 (n - 1))).setCell ⟨p, 6, none⟩ (.int .i64 1)).setCell ⟨p, 7, none⟩ (.int .i64 16)) p 8 _ _ _ h7
  have h9 : ((((((((((w.setCell ⟨p, 0, none⟩ (.int .i64 0)).setCell ⟨p, 1, none⟩ (.int .i64 0)).setCell ⟨p, 2, none⟩ (.int .i64 1)).setCell ⟨p, 3, none⟩ (.int .i64 words)).setCell ⟨p, 4, none⟩ (.int .i64 0)).setCell ⟨p, 5, none⟩ (.int .i64 (n - 1))).setCell ⟨p, 6, none⟩ (.int .i64 1)).setCell ⟨p, 7, none⟩ (.int .i64 16)).setCell ⟨p, 8, none⟩ (.int .i64 0)).setCell ⟨p, 9, none⟩ (.int .i64 m)).heap[p]? = some (.cells #[.int .i64 0, .int .i64 0, .int .i64 1, .int .i64 words, .int .i64 0, .int .i64 (n - 1), .int .i64 1, .int .i64 16, .int .i64 0, .int .i64 m] 165 (0, 0)) := heap_setCell_same (((((((((w.setCell ⟨p, 0, none⟩ (.int .i64 0)).setCell ⟨p, 1, none⟩ (.int .i64 0)).setCell ⟨p, 2, none⟩ (.int .i64 1)).setCell ⟨p, 3, none⟩ (.int .i64 words)).setCell ⟨p, 4, none⟩ (.int .i64 0)).setCell ⟨p, 5, none⟩ (.int .i64 (n - 1))).setCell ⟨p, 6, none⟩ (.int .i64 1)).setCell ⟨p, 7, none⟩ (.int .i64 16)).setCell ⟨p, 8, none⟩ (.int .i64 0)) p 9 _ _ _ h8
  intro k hk
  simp only [World.cell?, h9]
  match k, hk with
  | 0, _ => exact ⟨rfl, rfl⟩
  | 1, _ => exact ⟨rfl, rfl⟩
  | 2, _ => exact ⟨rfl, rfl⟩
  | 3, _ => exact ⟨rfl, rfl⟩
  | 4, _ => exact ⟨rfl, by rw [hm]; rfl⟩
theorem stored_mod {w0 w : World} {p : Nat} (h : Mod [] w0 w) (hp : w0.heap.size ≤ p) (words n m : Int) : Mod [] w0 ((((((((((w.setCell ⟨p, 0, none⟩ (.int .i64 0)).setCell ⟨p, 1, none⟩ (.int .i64 0)).setCell ⟨p, 2, none⟩ (.int .i64 1)).setCell ⟨p, 3, none⟩ (.int .i64 words)).setCell ⟨p, 4, none⟩ (.int .i64 0)).setCell ⟨p, 5, none⟩ (.int .i64 (n - 1))).setCell ⟨p, 6, none⟩ (.int .i64 1)).setCell ⟨p, 7, none⟩ (.int .i64 16)).setCell ⟨p, 8, none⟩ (.int .i64 0)).setCell ⟨p, 9, none⟩ (.int .i64 m)) := ((((((((((h.set (x := ⟨p, 0, none⟩) (Or.inr hp) _).set (x := ⟨p, 1, none⟩) (Or.inr hp) _).set (x := ⟨p, 2, none⟩) (Or.inr hp) _).set (x := ⟨p, 3, none⟩) (Or.inr hp) _).set (x := ⟨p, 4, none⟩) (Or.inr hp) _).set (x := ⟨p, 5, none⟩) (Or.inr hp) _).set (x := ⟨p, 6, none⟩) (Or.inr hp) _).set (x := ⟨p, 7, none⟩) (Or.inr hp) _).set (x := ⟨p, 8, none⟩) (Or.inr hp) _).set (x := ⟨p, 9, none⟩) (Or.inr hp) _)
set_option maxHeartbeats 20000000 in
set_option maxRecDepth 100000 in
theorem fit_calls {w : World} (g : Good w) {A : Option Addr} {n cap : Nat} {L : List Xi} (hL : InsAt w A L) (hn : n = L.length) (h0 : 0 < n) (hb : n ≤ 1000000) (words : Int) :
    Calls Tryz.prog 65 #[defV A n cap, .int .i64 words] w (TellsF L words w) := by
  have hM := Mod.refl [] w
  have hMw := hM.alloc (.cells #[.slice A n cap] 24)
  have HL := Lib.hid (fun (W : World) (m : Mod [] w W) => locals_calls (cap := cap) (hL.far m) hn h0)
  have HMw := Lib.hid hMw
  have hd : (w.alloc (.cells #[.slice A n cap] 24)).cell? ⟨w.heap.size, 0, none⟩ = some (.slice A n cap) := by rw [World.cell?_alloc_new]; rfl
  have hdZ := ((Mod.refl [] (w.alloc (.cells #[.slice A n cap] 24))).alloc (.cells #[.int .i64 0, .int .i64 0, .int .i64 0, .int .i64 0, .int .i64 0, .int .i64 0, .int .i64 0, .int .i64 0, .int .i64 0, .int .i64 0] 165)).cell (by simp) hd
  have HD := Lib.hid hd
  have hnI : (n : Int) ≤ 1000000 := by omega
  obtain ⟨ℓ, hℓ⟩ : ∃ ℓ, ℓ = locX L := ⟨_, rfl⟩
  rw [← hℓ] at HL
  have HN := Lib.hid (And.intro hn (And.intro h0 (And.intro hℓ hL)))
  obtain ⟨wl, hwl⟩ : ∃ wl, IntKind.i64.wrap (ℓ - 1) = wl := ⟨_, rfl⟩
  have HWl := Lib.hid (show wl = wrap64 (ℓ - 1) by rw [← hwl, IntKind.wrap_i64]; unfold wrap64; rfl)
  have hw : IntKind.i64.wrap ((n : Int) - 1) = (n : Int) - 1 := by rw [IntKind.wrap_i64]; omega
  clear hM hMw hd hn h0 hℓ hL
  go_enter Tryz.func65, Tryz.ntmps65
  go_upto_region 1 with fail
  go_cut [5] (fun u wc => ∃ p, u = .pointer (some ⟨p, 0, none⟩) ∧ RowKit.Hid (SpanAt wc p ℓ n words ∧ Mod [] (w.alloc (.cells #[.slice A n cap] 24)) wc))
  case first =>
    go_region_with (first
      | (go_at_call 122; (with_reducible refine (HL.out _ HMw.out.drew).mono ?_); rintro e w1 ⟨rfl, hm1⟩; have HM1 := Lib.hid ((Mod.refl [] (w.alloc (.cells #[.slice A n cap] 24))).drew.trans hm1); have hd1 := hm1.cell (by simp) HD.out; have hd1Z := ((Mod.refl [] w1).alloc (.cells #[.int .i64 0, .int .i64 0, .int .i64 0, .int .i64 0, .int .i64 0, .int .i64 0, .int .i64 0, .int .i64 0, .int .i64 0, .int .i64 0] 165)).cell (by simp) hd1; clear hm1)
      | (go_at_call 122; (with_reducible refine (HL.out _ (HMw.out.alloc _).drew).mono ?_); rintro e w1 ⟨rfl, hm1⟩; have HM1 := Lib.hid (((Mod.refl [] (w.alloc (.cells #[.slice A n cap] 24))).alloc _).drew.trans hm1); have hd1 := HM1.out.cell (by simp) HD.out; have z := Z10.of ((hm1.block (w.heap.size + 1) (by simp [World.drew]) (by simp)).trans (by rw [← size_allocI w (.cells #[.slice A n cap] 24)]; exact (MapKept.heap_alloc _ _).1)); have HZ := Lib.hid z; obtain ⟨c0, c1, c2, c3, c4, c5, c6, c7, c8, c9, f0, f1, f2, f3, f4, f5, f6, f7, f8, f9, _⟩ := z; clear hm1)
      | fail)
    all_goals
      go_wp2_with fail
      go_meet
      case rel => first
        | (have q := HZ.out; exact ⟨_, rfl, Lib.hid ⟨span_stored q words n wl ℓ HWl.out, stored_mod HM1.out (by rw [size_allocI]; exact Nat.le_refl _) words n wl⟩⟩)
        | exact ⟨_, rfl, Lib.hid ⟨span_new _ _ _ _ _ HWl.out _, HM1.out.alloc _⟩⟩
  case rest =>
    obtain ⟨p, rfl, hc⟩ := hcut
    clear hdZ hw hwl
    have hd1 := hc.out.2.cell (by simp) HD.out
    have HS := Lib.hid hc.out
    have HLx := Lib.hid (fun (W : World) (m : Mod [] w W) => HN.out.2.2.2.far m)
    clear hc HL
    go_wp2_with fail
    clear hd1
    go_loopg [25] n (fun g z wr => ∃ i : Nat, z = .int .i64 (i : Int) ∧ i + g = n ∧ RowKit.Hid (Mod [] wc wr ∧ ∀ j x, j < i → L[j]? = some x → fitX ℓ n words j x = true))
    case atStart => exact ⟨0, rfl, by omega, Lib.hid ⟨Mod.refl [] _, fun j x h => by omega⟩⟩
    case round =>
      obtain ⟨i, rfl, hig, hi⟩ := hrel
      by_cases hlt : i < n
      · have hltI : (i : Int) < (n : Int) := by omega
        obtain ⟨x, hx⟩ : ∃ x, L[i]? = some x := ⟨_, List.getElem?_eq_getElem (by have := HN.out.1; omega)⟩
        obtain ⟨B, off, rfl, hat, hwx⟩ := (HLx.out _ ((HMw.out.trans HS.out.2).trans hi.out.1)).get hx
        have hc0 := hat.c0
        have hc1 := hat.c1
        have hc2 := hat.c2
        have hm1 := (Mod.refl [] wr).alloc (.cells #[.int .u8 (x.op : Int), .int .i64 x.a, .int .i64 x.w] 61)
        have hx0 : (wr.alloc (.cells #[.int .u8 (x.op : Int), .int .i64 x.a, .int .i64 x.w] 61)).cell? ⟨wr.heap.size, 0, none⟩ = some (.int .u8 (x.op : Int)) := by rw [World.cell?_alloc_new]; rfl
        have hx1 : (wr.alloc (.cells #[.int .u8 (x.op : Int), .int .i64 x.a, .int .i64 x.w] 61)).cell? ⟨wr.heap.size, 1, none⟩ = some (.int .i64 x.a) := by rw [World.cell?_alloc_new]; rfl
        have hx2 : (wr.alloc (.cells #[.int .u8 (x.op : Int), .int .i64 x.a, .int .i64 x.w] 61)).cell? ⟨wr.heap.size, 2, none⟩ = some (.int .i64 x.w) := by rw [World.cell?_alloc_new]; rfl
        obtain ⟨fx, hfx⟩ : ∃ fx, fx = fitX ℓ n words i x := ⟨_, rfl⟩
        have HFX := Lib.hid hfx
        have HX := Lib.hid hx
        have HI := Lib.hid (And.intro (hi.out.1.trans hm1) hi.out.2)
        have HG := Lib.hid hig
        obtain ⟨io, hio⟩ : ∃ io, io = isOpX x.op := ⟨_, rfl⟩
        have k1 := fun W => isop_calls W x.op
        rw [← hio] at k1
        have H1 := Lib.hid k1
        have HIO := Lib.hid hio
        have g1 := (g.far ((HMw.out.trans HS.out.2).trans HI.out.1))
        have HG1 := Lib.hid g1
        have hsp := (HS.out.1.far HI.out.1) (kindX x.op) (kind_le _)
        obtain ⟨lo, hlo⟩ : ∃ lo, lo = (spanX ℓ n words (kindX x.op)).1 := ⟨_, rfl⟩
        obtain ⟨up, hup⟩ : ∃ up, up = (spanX ℓ n words (kindX x.op)).2 := ⟨_, rfl⟩
        rw [← hlo, ← hup] at hsp
        obtain ⟨hsp0, hsp1⟩ := hsp
        obtain ⟨isp, hisp⟩ : ∃ isp, isp = decide (lo ≤ x.a ∧ x.a ≤ up) := ⟨_, rfl⟩
        have hfit : fitX ℓ n words i x = (io && isp && !(decide (x.op = 12) && decide (0 < i)) && (decide (x.op = 1) || decide (x.w = 0))) := by rw [hio, hisp, hlo, hup]; rfl
        have HFIT := Lib.hid hfit
        have k2 := fun W => has_calls W lo up x.a
        rw [← hisp] at k2
        have H2 := Lib.hid k2
        obtain ⟨kd, hkd⟩ : ∃ kd, kd = kindX x.op := ⟨_, rfl⟩
        have hkd4 : kd ≤ 4 := by rw [hkd]; exact kind_le _
        rw [← hkd] at hsp0 hsp1
        have hkdI : (kd : Int) < 5 := by omega
        have HKD := Lib.hid hkd
        clear hi hx hat hwx hig hm1 hfx hio k1 g1 hlo hup hisp hfit k2 hkd hkd4
        have TF : fx = false → ¬ FitAll L words := fun hf h => by
          have := h i x HX.out
          rw [← HN.out.2.2.1, ← HN.out.1, ← HFX.out, hf] at this
          cases this
        have HTF := Lib.hid TF
        clear TF
        cases io with
        | false =>
          have hf : fx = false := by rw [HFX.out, HFIT.out]; rfl
          have HF := Lib.hid (HTF.out hf)
          clear hf
          go_wp2_with fail
          refine (H1.out _).mono ?_
          rintro e w4 ⟨rfl, rfl⟩
          go_wp2_with fail
          go_ret
          exact ⟨false, rfl, ⟨fun h => (by cases h), fun h => absurd h HF.out⟩, (HMw.out.trans HS.out.2).trans HI.out.1⟩
        | true =>
          have hopl : x.op < 16 := by have := HIO.out; unfold isOpX at this; have := of_decide_eq_true this.symm; omega
          have hopI : (x.op : Int) < 16 := by omega
          have hgk := HG1.out.k x.op hopl
          rw [← HKD.out] at hgk
          have hopl' := Lib.hid hopl
          clear hopl
          go_wp2_with fail
          refine (H1.out _).mono ?_
          rintro e w4 ⟨rfl, rfl⟩
          go_upto_region 6 with fail
          go_cut [25, 30] from 25 to 61 (fun y u wd => y = .int .i64 (i : Int) ∧ u = .bool (!isp) ∧ RowKit.Hid (Mod [] (wr.alloc (.cells #[.int .u8 (x.op : Int), .int .i64 x.a, .int .i64 x.w] 61)) wd))
          case first =>
            go_region_with (first
              | (go_at_call 124; (with_reducible refine (H2.out _).mono ?_); rintro e w5 ⟨rfl, hm5⟩; have HM5 := Lib.hid hm5; clear hm5)
              | fail)
            all_goals
              go_wp2_with fail
              go_meet
              case rel => exact ⟨rfl, rfl, Lib.hid ((Mod.refl [] _).drew.trans HM5.out)⟩
          case rest =>
            obtain ⟨rfl, rfl, hd⟩ := hcut
            have HD2 := Lib.hid (HI.out.1.trans hd.out)
            have hy0 := hd.out.cell (by simp) hx0
            have hy2 := hd.out.cell (by simp) hx2
            clear hd hc0 hc1 hc2 hx0 hx1 hx2 hsp0 hsp1 hgk H1 H2
            have HEND := Lib.hid ((HMw.out.trans HS.out.2).trans HD2.out)
            cases isp with
            | false =>
              have hf : fx = false := by rw [HFX.out, HFIT.out]; simp
              have HF := Lib.hid (HTF.out hf)
              clear hf
              go_wp2_with fail
              go_ret
              exact ⟨false, rfl, ⟨fun h => (by cases h), fun h => absurd h HF.out⟩, HEND.out⟩
            | true =>
              have hu12 : x.op = 12 ∨ ¬ x.op = 12 := Classical.em _
              have hui : 0 < i ∨ ¬ 0 < i := Classical.em _
              have hu1 : x.op = 1 ∨ ¬ x.op = 1 := Classical.em _
              have huw : x.w = 0 ∨ ¬ x.w = 0 := Classical.em _
              by_cases q12 : x.op = 12
              · have b12 : ((x.op : Int) == 12) = true := by rw [q12]; rfl
                have b1 : ((x.op : Int) != 1) = true := by rw [q12]; rfl
                by_cases qi : 0 < i
                · have bi : decide ((0 : Int) < (i : Int)) = true := decide_eq_true (by omega)
                  have bi2 : decide (0 < i) = true := decide_eq_true qi
                  have hf : fx = false := by rw [HFX.out, HFIT.out]; simp [q12, qi]
                  have HF := Lib.hid (HTF.out hf)
                  clear hf hu12 hui hu1 huw
                  go_wp2_with fail
                  go_ret
                  exact ⟨false, rfl, ⟨fun h => (by cases h), fun h => absurd h HF.out⟩, HEND.out⟩
                · have bi : decide ((0 : Int) < (i : Int)) = false := decide_eq_false (by omega)
                  have bi2 : decide (0 < i) = false := decide_eq_false qi
                  by_cases qw : x.w = 0
                  · have bw : (x.w != 0) = false := by rw [qw]; rfl
                    have hf : fitX ℓ n words i x = true := by rw [HFIT.out]; simp [q12, qi, qw]
                    have HF := Lib.hid hf
                    clear hf hu12 hui hu1 huw
                    go_wp2_with fail
                    go_roundg (gk - 1)
                    case measure => have := HG.out; omega
                    case rel =>
                      refine ⟨i + 1, by go_num, by have := HG.out; omega, Lib.hid ⟨HD2.out, fun j y hj hy => ?_⟩⟩
                      by_cases e : j = i
                      · subst e
                        have := HX.out
                        rw [hy] at this
                        injection this with this
                        subst this
                        exact HF.out
                      · exact HI.out.2 j y (by omega) hy
                  · have bw : (x.w != 0) = true := by simpa using qw
                    have hf : fx = false := by rw [HFX.out, HFIT.out]; simp [q12, qw]
                    have HF := Lib.hid (HTF.out hf)
                    clear hf hu12 hui hu1 huw
                    go_wp2_with fail
                    go_ret
                    exact ⟨false, rfl, ⟨fun h => (by cases h), fun h => absurd h HF.out⟩, HEND.out⟩
              · have b12 : ((x.op : Int) == 12) = false := by rw [beq_eq_false_iff_ne]; omega
                by_cases q1 : x.op = 1
                · have b1 : ((x.op : Int) != 1) = false := by rw [q1]; rfl
                  have hf : fitX ℓ n words i x = true := by rw [HFIT.out]; simp [q1]
                  have HF := Lib.hid hf
                  clear hf hu12 hui hu1 huw
                  go_wp2_with fail
                  go_roundg (gk - 1)
                  case measure => have := HG.out; omega
                  case rel =>
                    refine ⟨i + 1, by go_num, by have := HG.out; omega, Lib.hid ⟨HD2.out, fun j y hj hy => ?_⟩⟩
                    by_cases e : j = i
                    · subst e
                      have := HX.out
                      rw [hy] at this
                      injection this with this
                      subst this
                      exact HF.out
                    · exact HI.out.2 j y (by omega) hy
                · have b1 : ((x.op : Int) != 1) = true := by rw [bne_iff_ne]; omega
                  by_cases qw : x.w = 0
                  · have bw : (x.w != 0) = false := by rw [qw]; rfl
                    have hf : fitX ℓ n words i x = true := by rw [HFIT.out]; simp [q12, q1, qw]
                    have HF := Lib.hid hf
                    clear hf hu12 hui hu1 huw
                    go_wp2_with fail
                    go_roundg (gk - 1)
                    case measure => have := HG.out; omega
                    case rel =>
                      refine ⟨i + 1, by go_num, by have := HG.out; omega, Lib.hid ⟨HD2.out, fun j y hj hy => ?_⟩⟩
                      by_cases e : j = i
                      · subst e
                        have := HX.out
                        rw [hy] at this
                        injection this with this
                        subst this
                        exact HF.out
                      · exact HI.out.2 j y (by omega) hy
                  · have bw : (x.w != 0) = true := by simpa using qw
                    have hf : fx = false := by rw [HFX.out, HFIT.out]; simp [q12, q1, qw]
                    have HF := Lib.hid (HTF.out hf)
                    clear hf hu12 hui hu1 huw
                    go_wp2_with fail
                    go_ret
                    exact ⟨false, rfl, ⟨fun h => (by cases h), fun h => absurd h HF.out⟩, HEND.out⟩
      · have hltI : ¬ (i : Int) < (n : Int) := by omega
        have hin : i = n := by omega
        have HI := Lib.hid hi.out
        have hfit : FitAll L words := fun j x hx => by
          have hj := (List.getElem?_eq_some_iff.1 hx).1
          have := HI.out.2 j x (by have := HN.out.1; omega) hx
          rw [← HN.out.2.2.1, ← HN.out.1]
          exact this
        have HF := Lib.hid hfit
        clear hi hin hfit
        go_wp2_with fail
        go_ret
        exact ⟨true, rfl, ⟨fun _ => HF.out, fun _ => rfl⟩, (HMw.out.trans HS.out.2).trans HI.out.1⟩
end Go.Proofs.YtifnkmddinoneaaGreatDoor.L10
namespace Go.Proofs.YtifnkmddinoneaaGreatDoor.L10
open Go.RowKit
set_option linter.unusedVariables false

/-- A definition may be. -/
def MayP (L : List Xi) (words : Int) : Prop := L.length ≤ 500 ∧ ∃ o x v, Lab L o ∧ L[L.length - 1]? = some x ∧ o[L.length - 1]? = some v ∧ endX x v = true ∧ FitAll L words
theorem MayP.of {L : List Xi} {words : Int} {o : List Int} {x : Xi} {v : Int} (hl : L.length ≤ 500) (h : Lab L o) (hx : L[L.length - 1]? = some x) (hv : o[L.length - 1]? = some v) : MayP L words ↔ endX x v = true ∧ FitAll L words := by
  refine ⟨fun ⟨_, o', x', v', h1, h2, h3, h4, h5⟩ => ?_, fun ⟨h1, h2⟩ => ⟨hl, o, x, v, h, hx, hv, h1, h2⟩⟩
  obtain rfl := h.same h1
  rw [hx] at h2
  rw [hv] at h3
  injection h2 with h2
  injection h3 with h3
  subst h2 h3
  exact ⟨h4, h5⟩
theorem MayP.bad {L : List Xi} {words : Int} (h : Bad L) : ¬ MayP L words := fun ⟨_, o, _, _, h1, _⟩ => h1.good h
def TellsM (L : List Xi) (words : Int) (w : World) (e : Ending) (w' : World) : Prop := ∃ r : Bool, e = .returned (.bool r) ∧ (r = true ↔ MayP L words) ∧ Mod [] w w'
theorem last_there {L : List Xi} {o : List Int} (h : Lab L o) : ∃ x v, L[L.length - 1]? = some x ∧ o[L.length - 1]? = some v :=
  ⟨_, _, List.getElem?_eq_getElem (by have := h.pos; omega), List.getElem?_eq_getElem (by have := h.pos; rw [h.len]; omega)⟩
set_option maxHeartbeats 4000000 in
set_option maxRecDepth 100000 in
theorem may_calls {w : World} (g : Good w) {A : Option Addr} {n cap : Nat} {L : List Xi} (hL : InsAt w A L) (hn : n = L.length) (hb : n ≤ 1000000) (words : Int) :
    Calls Tryz.prog 39 #[defV A n cap, .int .i64 words] w (TellsM L words w) := by
  have hM := Mod.refl [] w
  have hMw := hM.alloc (.cells #[.slice A n cap] 24)
  have hd : (w.alloc (.cells #[.slice A n cap] 24)).cell? ⟨w.heap.size, 0, none⟩ = some (.slice A n cap) := by rw [World.cell?_alloc_new]; rfl
  have HD := Lib.hid hd
  have HMw := Lib.hid hMw
  by_cases h500 : 500 < n
  · have h5 : decide ((500 : Int) < (n : Int)) = true := decide_eq_true (by omega)
    have h5b : decide (500 < n) = true := decide_eq_true h500
    have hno : RowKit.Hid (¬ MayP L words) := Lib.hid fun ⟨h, _⟩ => by omega
    clear hL hn hb hM hMw hd h500
    go_enter Tryz.func39, Tryz.ntmps39
    go_wp2_with fail
    go_ret
    exact ⟨false, rfl, ⟨fun h => (by cases h), fun h => absurd h hno.out⟩, HMw.out⟩
  · have h5 : decide ((500 : Int) < (n : Int)) = false := decide_eq_false (by omega)
    have h5b : decide (500 < n) = false := decide_eq_false h500
    have H1 := Lib.hid (loops_calls (cap := cap) (hL.far hMw) hn hb)
    have HN := Lib.hid (And.intro hn (And.intro hL (show L.length ≤ 500 by omega)))
    have HG := Lib.hid g
    clear hL hn hM hMw hd h500 g
    go_enter Tryz.func39, Tryz.ntmps39
    go_wp2_with fail
    refine (H1.out).mono ?_
    rintro e w1 (⟨b, o, rfl, hlab, hiv, hm, hnb⟩ | ⟨rfl, hbad, hm⟩)
    · have hol : o.length = n := by rw [hlab.len, HN.out.1]
      rw [hol]
      obtain ⟨x, v, hx, hv⟩ := last_there hlab
      have h0 : 0 < n := by rw [HN.out.1]; exact hlab.pos
      have HM1 := Lib.hid (HMw.out.trans hm)
      have HP := Lib.hid (MayP.of (words := words) HN.out.2.2 hlab hx hv)
      rw [← HN.out.1] at hx hv
      have H2 := Lib.hid (ended_calls (cap := cap) (HN.out.2.1.far HM1.out) HN.out.1 h0 hb hiv hx hv hol)
      have H3 := Lib.hid (fun (W : World) (m : Mod [] w W) => fit_calls (cap := cap) (HG.out.far m) (HN.out.2.1.far m) HN.out.1 h0 hb words)
      obtain ⟨r, hr⟩ : ∃ r, r = endX x v := ⟨_, rfl⟩
      rw [← hr] at H2 HP
      have hd1 := hm.cell (by simp) HD.out
      clear hlab hiv hm hnb hol hx hv hr H1
      cases r with
      | false =>
        go_wp2_with fail
        refine (H2.out).mono ?_
        rintro e w2 ⟨rfl, hm2⟩
        have HM2 := Lib.hid hm2
        clear hm2
        go_wp2_with fail
        go_ret
        exact ⟨false, rfl, ⟨fun h => (by cases h), fun h => (by cases (HP.out.1 h).1)⟩, HM1.out.trans HM2.out⟩
      | true =>
        go_wp2_with fail
        refine (H2.out).mono ?_
        rintro e w2 ⟨rfl, hm2⟩
        have hd2 := hm2.cell (by simp) hd1
        have HM2 := Lib.hid hm2
        clear hm2
        go_wp2_with fail
        refine (H3.out _ (HM1.out.trans HM2.out)).mono ?_
        rintro e w3 ⟨r3, rfl, hr3, hm3⟩
        have HM3 := Lib.hid hm3
        have HR3 := Lib.hid hr3
        clear hm3 hr3
        go_wp2_with fail
        go_ret
        exact ⟨r3, by simp, ⟨fun h => HP.out.2 ⟨by simp, HR3.out.1 h⟩, fun h => HR3.out.2 (HP.out.1 h).2⟩, (HM1.out.trans HM2.out).trans HM3.out⟩
    · have hno : RowKit.Hid (¬ MayP L words) := Lib.hid (MayP.bad hbad)
      have HM1 := Lib.hid (HMw.out.trans hm)
      clear hbad hm H1
      go_wp2_with fail
      go_ret
      exact ⟨false, rfl, ⟨fun h => (by cases h), fun h => absurd h hno.out⟩, HM1.out⟩
end Go.Proofs.YtifnkmddinoneaaGreatDoor.L10
namespace Go.Proofs.YtifnkmddinoneaaGreatDoor.L10
open Go.RowKit
set_option linter.unusedVariables false

abbrev flatX (x : Xi) : List Value := [.int .u8 (x.op : Int), .int .i64 x.a, .int .i64 x.w]
def flatsX (K : List Xi) : List Value := K.flatMap flatX
theorem flatsX_len (L : List Xi) : (flatsX L).length = L.length * 3 := by
  induction L with
  | nil => rfl
  | cons x r ih => simp only [flatsX, List.flatMap_cons, List.length_append] at ih ⊢; rw [ih]; simp [flatX]; omega
theorem flatsX_app (K Y : List Xi) : flatsX (K ++ Y) = flatsX K ++ flatsX Y := by simp [flatsX]
theorem flatsX_get (L : List Xi) (j k : Nat) (hj : j < L.length) (hk : k < 3) : (flatsX L)[j * 3 + k]? = (flatX L[j])[k]? := by
  have e : flatsX L = flatsX (L.take j) ++ (flatX L[j] ++ flatsX (L.drop (j + 1))) := by
    have h1 : L = L.take j ++ L[j] :: L.drop (j + 1) := by rw [← List.drop_eq_getElem_cons hj, List.take_append_drop]
    have h2 : flatsX L = flatsX (L.take j ++ L[j] :: L.drop (j + 1)) := by rw [← h1]
    rw [h2]
    unfold flatsX
    rw [List.flatMap_append, List.flatMap_cons]
  have hl : (flatsX (L.take j)).length = j * 3 := by rw [flatsX_len, List.length_take]; congr 1; omega
  rw [e, List.getElem?_append_right (by omega), hl, Nat.add_sub_cancel_left, List.getElem?_append_left (by simp [flatX]; omega)]
def appIns (ty : TypeId) (xs : Array Value) : Sem Value := Builtin.append_ #[22, 22] ty xs
@[go_sem ↓ high] theorem builtin_appIns (ty : TypeId) (cs : Array Bool) (xs : Array Value) : builtin .append #[22, 22] ty cs xs = (do pure (.value (← appIns ty xs))) := rfl
theorem infoIns : (Tryz.prog.info? 61).map (fun i => (i.zero, i.size, i.bytes)) = some (some (.agg #[.int .u8 0, .int .i64 0, .int .i64 0]), 3, 24) := by kernel_rfl
def Xr (w : World) (base : Nat) (v : Value) (K : List Xi) : Prop := w.ownsRow base 61 3 v K.length (flatsX K)
theorem Xr.nil (w : World) (base : Nat) : Xr w base (.slice none 0 0) [] := ⟨rfl, .inl ⟨rfl, rfl⟩⟩
theorem Xr.far {w w' : World} {base : Nat} {v : Value} {K : List Xi} (h : Xr w base v K) (k : Mod [] w w') : Xr w' base v K := by
  refine ⟨h.1, h.2.elim Or.inl fun ⟨g, cap, cur, h1, h2, h3, h4⟩ => Or.inr ⟨g, cap, cur, h1, h2, ?_, h4⟩⟩
  rw [k.block g (Array.getElem?_eq_some_iff.1 h3).1 (by simp)]
  exact h3
theorem Xr.own {w : World} {b : Nat} {v : Value} {K : List Xi} (h : Xr w b v K) : ∀ g, v.ownBlock = some g → b ≤ g ∧ g < w.heap.size := fun g hg => World.ownsRow.lt h g hg
theorem Xr.lit (w : World) (base : Nat) (hb : base ≤ w.heap.size) (K : List Xi) (hK : K.length ≤ 1000000) (cs : Array Value) (hcs : cs = (flatsX K).toArray) : Xr (w.alloc (.cells cs 61)) base (.slice (some ⟨w.heap.size, 0, none⟩) K.length K.length) K := by
  subst hcs
  have hm : maxLen = 9223372036854775807 := rfl
  have := World.ownsRow_lit (base := base) (e := 61) (size := 3) w (flatsX K).toArray K.length hb (by omega) (by simp [flatsX_len])
  unfold Xr
  simpa using this
structure Xm (w0 w : World) (v : Value) (K : List Xi) : Prop where
  row : Xr w w0.heap.size v K
  m : Mod [] w0 w
  well : ∀ x ∈ K, WellX x
theorem Xr.len {w : World} {base : Nat} {A : Option Addr} {n cap : Nat} {K : List Xi} (h : Xr w base (.slice A n cap) K) : n = K.length ∧ (A = none → cap = 0) ∧ n ≤ cap ∧ cap ≤ 9223372036854775807 := by
  rcases h.2 with ⟨e, h0⟩ | ⟨g, cap', cur, e, _, _, h4, h5, _⟩
  · simp only [Value.slice.injEq] at e
    obtain ⟨rfl, rfl, rfl⟩ := e
    exact ⟨h0.symm, fun _ => rfl, by omega, by omega⟩
  · simp only [Value.slice.injEq] at e
    obtain ⟨rfl, rfl, rfl⟩ := e
    exact ⟨rfl, by simp, h4, h5⟩
theorem Xm.ins {w0 w : World} {A : Option Addr} {n cap : Nat} {K : List Xi} (h : Xm w0 w (.slice A n cap) K) : InsAt w A K := fun i hi => by
  rcases h.row.2 with ⟨e, h0⟩ | ⟨g, cap', cur, e, hr⟩
  · omega
  · simp only [Value.slice.injEq] at e
    obtain ⟨rfl, rfl, rfl⟩ := e
    have hown : w.ownsRow w0.heap.size 61 3 (.slice (some ⟨g, 0, none⟩) K.length cap) K.length (flatsX K) := h.row
    have get : ∀ k, k < 3 → w.cell? ⟨g, 0 + i * 3 + k, none⟩ = (flatX K[i])[k]? := fun k hk => by
      rw [Nat.zero_add, hown.cellAt (i * 3 + k) (by omega), flatsX_get K i k hi hk]
    exact ⟨g, 0, rfl, ⟨get 0 (by omega), get 1 (by omega), get 2 (by omega)⟩, h.well _ (List.getElem_mem hi)⟩
end Go.Proofs.YtifnkmddinoneaaGreatDoor.L10
