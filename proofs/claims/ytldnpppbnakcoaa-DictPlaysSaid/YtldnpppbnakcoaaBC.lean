/- Layer 9: slices.Backward over a row of pointers, as an iterator. Condition: as each says. -/
import Derived.Test.YtldnpppbnakcoaaBB
import Derived.RangeFuncNested
import Derived.RangeFuncBound
import Derived.RangeFuncCalls
import Derived.RangeFuncLeaves
import Derived.RangeFuncWrites
import Derived.Shelf.Abstract
import Derived.Shelf.RegionOpen
import Derived.OwnWalkIn
import Derived.TacticsInMore
import Derived.LoopNIn
import Derived.LoopIn
namespace Go.Proofs.Ytldnpppbnakcoaa
open Go.RowKit Go.Shelf
attribute [local go_sem] Oper.semAt_some
set_option linter.unusedVariables false

@[go_sem ↓] theorem callVal_yield (l : Nat) (p q xs : Array Value) : callVal (.func (.yield l) p q) xs = Instr.yield l (p ++ xs) := rfl
/-- What lay below B, but for block b, lies as it lay. -/
structure Kq (B b : Nat) (W W' : World) : Prop where
  size : W.heap.size ≤ W'.heap.size
  block : ∀ k, k < B → k ≠ b → W'.heap[k]? = W.heap[k]?
theorem Kq.refl (B b : Nat) (W : World) : Kq B b W W := ⟨Nat.le_refl _, fun _ _ _ => rfl⟩
theorem Kq.trans {B b : Nat} {X Y Z : World} (h : Kq B b X Y) (k : Kq B b Y Z) : Kq B b X Z := ⟨Nat.le_trans h.size k.size, fun i hi hb => (k.block i hi hb).trans (h.block i hi hb)⟩
theorem Kq.cell {B b : Nat} {X Y : World} (h : Kq B b X Y) {x : Addr} {v : Value} (h1 : x.block < B) (h2 : x.block ≠ b) (hc : X.cell? x = some v) : Y.cell? x = some v := (World.cell?_of_block (h.block x.block h1 h2)).trans hc
theorem kq_put {B b : Nat} {w : World} (hn : B ≤ w.heap.size) (W : World) (l : Nat) (o o' : Obj) (hl : w.heap.size ≤ l) (h : W.heap[l]? = some o) (_ : o.isCells = false) (_ : o.isWalk = false) : Kq B b W (W.putObj l o') :=
  ⟨by simp [World.putObj], fun k hk _ => World.putObj_heap_other (by omega)⟩
abbrev Upto (c : Nat) := { j : Nat // j < c }
def upC (c k : Nat) : List (Upto c) := (List.range k).filterMap fun j => if h : j < c then some ⟨j, h⟩ else none
theorem upC_zero (c : Nat) : upC c 0 = [] := rfl
theorem upC_succ (c k : Nat) (h : k < c) : upC c (k + 1) = upC c k ++ [⟨k, h⟩] := by
  unfold upC
  rw [List.range_succ, List.filterMap_append]
  simp [h]
theorem upC_len (c k : Nat) (h : k ≤ c) : (upC c k).length = k := by
  induction k with
  | zero => rfl
  | succ k ih => rw [upC_succ c k (by omega), List.length_append, ih (by omega)]; rfl
def encB (c : Nat) (q : Nat → Nat) (x : Upto c) : Array Value := #[.int .i64 ((c - 1 - x.1 : Nat) : Int), PtW (q x.1)]
set_option maxRecDepth 100000 in
set_option maxHeartbeats 2000000 in
theorem back1_in (F : Fence) (n : Nat) (hF : F.fn 59) (hro : F.round = none) (hn : 1 ≤ n) (l Bs B b : Nat) (A : Option Addr) (c cap : Nat) (q : Nat → Nat) (hc2 : c ≤ 2000) (hB : Bs < B) (hBb : Bs ≠ b)
    (J Jx : List (Upto c) → World → Prop)
    (hY : ∀ pre x W, J pre W → pre.length < c → YieldAt F (n - 1) Try.prog l (encB c q x) W fun e W' =>
      (e = .returned (.bool true) ∧ J (pre ++ [x]) W' ∧ Kq B b W W') ∨ (e = .returned (.bool false) ∧ Jx (pre ++ [x]) W'))
    (W : World) (hBs : W.cell? ⟨Bs, 0, none⟩ = some (.slice A c cap)) (hc : ∀ j, j < c → ∃ g off, A = some ⟨g, off, none⟩ ∧ g < B ∧ g ≠ b ∧ W.cell? ⟨g, off + (c - 1 - j), none⟩ = some (PtW (q j))) (h0 : J [] W) :
    CallsIn F n Try.prog 59 #[.func (.yield l) #[] #[], .pointer (some ⟨Bs, 0, none⟩)] W fun e W' => (∃ v, e = .returned v) ∧
      ((∃ ys, ys = upC c c ∧ J ys W') ∨ (∃ pre, True ∧ Jx pre W')) := by
  refine callsIn_of_wp Try.func59 rfl hF ?_ hro
  simp only [Try.ntmps59, List.size_toArray, List.length_cons, List.length_nil, Nat.reduceAdd, Nat.reduceSub, Array.replicate_succ, Array.replicate_zero, List.push_toArray, List.append_toArray, List.nil_append, List.cons_append]
  have hcI : (c : Int) ≤ 2000 := by omega
  gi_wp2
  gi_loopw [3] (fun i wr => ∃ k : Nat, k ≤ c ∧ i = .int .i64 ((c : Int) - 1 - (k : Int)) ∧ J (upC c k) wr ∧ Kq B b W wr)
    (fun i _ => (intOf i + 1).toNat)
  case atStart => exact ⟨0, Nat.zero_le _, by simp, h0, Kq.refl _ _ _⟩
  case round =>
    obtain ⟨k, hk, rfl, hJs, hnx⟩ := hrel
    have hbox := hnx.cell (x := ⟨Bs, 0, none⟩) hB hBb hBs
    by_cases hlt : k < c
    · obtain ⟨d, hd⟩ : ∃ d, d = c - 1 - k := ⟨_, rfl⟩
      have hdI : (c : Int) - 1 - (k : Int) = (d : Int) := by omega
      rw [hdI]
      obtain ⟨g, off, hA, hg, hgb, hcx⟩ := hc k hlt
      subst hA
      obtain ⟨fn, tmps, assign, body, hy, hR⟩ := hY _ ⟨k, hlt⟩ wr hJs (by rw [upC_len c k hk]; exact hlt)
      unfold encB at hy
      dsimp only at hy
      rw [← hd] at hy hcx
      have hcx' := hnx.cell (x := ⟨g, off + d, none⟩) hg hgb hcx
      have hdc : (d : Int) < (c : Int) := by omega
      have hd0 : (0 : Int) ≤ (d : Int) := by omega
      have HDI := Lib.hid (And.intro hd hdI)
      clear hd hdI hcx
      gi_wp2
      refine hR.mono ?_
      rintro e W3 (⟨rfl, hJ3, hk3⟩ | ⟨rfl, hJx3⟩)
      · gi_wp2
        go_roundw
        case rel => exact ⟨k + 1, by omega, by have := HDI.out.2; congr 1; omega, by rw [upC_succ c k hlt]; exact hJ3, hnx.trans hk3⟩
        case measure => have := HDI.out.2; simp [intOf]
      · gi_wp2
        refine bodyPost_ret (results_none rfl _ _ _) rfl ?_
        exact ⟨⟨_, rfl⟩, .inr ⟨_, trivial, hJx3⟩⟩
    · obtain rfl : k = c := by omega
      have hdI : (k : Int) - 1 - (k : Int) = -1 := by omega
      rw [hdI]
      gi_wp2
      go_end0
      exact ⟨⟨_, rfl⟩, .inl ⟨_, rfl, hJs⟩⟩
theorem back_in (F : Fence) (n : Nat) (hF : F.fn 54) (hro : F.round = none) (A : Option Addr) (len cap : Nat) (w : World) :
    CallsIn F n Try.prog 54 #[.slice A len cap] w fun e w' => e = .returned (.func (.func 59) #[] #[.pointer (some ⟨w.heap.size, 0, none⟩)]) ∧ w' = w.alloc (.cells #[.slice A len cap] 67) := by
  refine callsIn_of_wp Try.func54 rfl hF ?_ hro
  simp only [Try.ntmps54, List.size_toArray, List.length_cons, List.length_nil, Nat.reduceAdd, Nat.reduceSub, Array.replicate_succ, Array.replicate_zero, List.push_toArray, List.append_toArray, List.nil_append, List.cons_append]
  gi_wp2
  go_ret
  exact ⟨rfl, rfl⟩
theorem back_stops (F : Fence) (n : Nat) (hF : F.fn 59) (hro : F.round = none) (hn : 1 ≤ n) (Bs b : Nat) (A : Option Addr) (c cap : Nat) (q : Nat → Nat) (hc2 : c ≤ 2000) (w : World) (hB : Bs < w.heap.size) (hBb : Bs ≠ b)
    (hBs : w.cell? ⟨Bs, 0, none⟩ = some (.slice A c cap)) (hc : ∀ j, j < c → ∃ g off, A = some ⟨g, off, none⟩ ∧ g < w.heap.size ∧ g ≠ b ∧ w.cell? ⟨g, off + (c - 1 - j), none⟩ = some (PtW (q j))) :
    SeqStopsK F n Try.prog 59 #[.pointer (some ⟨Bs, 0, none⟩)] (encB c q) (Kq w.heap.size b) (fun ys => ys = upC c c) (fun _ => True) c w := fun l J Jx W hW _ _ hY h0 =>
  back1_in F n hF hro hn l Bs w.heap.size b A c cap q hc2 hB hBb J Jx hY W ((hW.cell (p := ⟨Bs, 0, none⟩) hB).trans hBs)
    (fun j hj => by
      obtain ⟨g, off, h1, h2, h3, h4⟩ := hc j hj
      exact ⟨g, off, h1, h2, h3, (hW.cell (p := ⟨g, off + (c - 1 - j), none⟩) h2).trans h4⟩) h0
end Go.Proofs.Ytldnpppbnakcoaa
