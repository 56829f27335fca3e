/- Layer 14 (package frame): the frames from the top (an iterator). Condition: as each says. -/
import Derived.Test.YtacmidlhfcnkiaaGI
import Derived.RangeFuncNested
import Derived.RangeFuncBound
import Derived.RangeFuncCalls
import Derived.RangeFuncLeaves
import Derived.RangeFuncWrites
import Derived.Shelf.Abstract
import Derived.Shelf.RegionOpen
import Derived.OwnWalkIn
import Derived.TacticsInMore
import Derived.LoopNIn
import Derived.LoopIn
namespace Go.Proofs.Ytacmidlhfcnkiaa
open Go.RowKit Go.Shelf
attribute [local go_sem] Oper.semAt_some
set_option linter.unusedVariables false

@[go_sem ↓] theorem callVal_yield (l : Nat) (p q xs : Array Value) : callVal (.func (.yield l) p q) xs = Instr.yield l (p ++ xs) := rfl
/-- What lay below B lies as it lay. -/
structure Kz (B : Nat) (W W' : World) : Prop where
  size : W.heap.size ≤ W'.heap.size
  block : ∀ k, k < B → W'.heap[k]? = W.heap[k]?
theorem Kz.refl (B : Nat) (W : World) : Kz B W W := ⟨Nat.le_refl _, fun _ _ => rfl⟩
theorem Kz.trans {B : Nat} {X Y Z : World} (h : Kz B X Y) (k : Kz B Y Z) : Kz B X Z := ⟨Nat.le_trans h.size k.size, fun i hi => (k.block i hi).trans (h.block i hi)⟩
theorem Kz.cell {B : Nat} {X Y : World} (h : Kz B X Y) {x : Addr} {v : Value} (h1 : x.block < B) (hc : X.cell? x = some v) : Y.cell? x = some v := (World.cell?_of_block (h.block x.block h1)).trans hc
theorem kz_put {B : Nat} {w : World} (hn : B ≤ w.heap.size) (W : World) (l : Nat) (o o' : Obj) (hl : w.heap.size ≤ l) (h : W.heap[l]? = some o) (_ : o.isCells = false) (_ : o.isWalk = false) : Kz B W (W.putObj l o') :=
  ⟨by simp [World.putObj], fun k hk => World.putObj_heap_other (by omega)⟩
abbrev Upto (c : Nat) := { j : Nat // j < c }
def upC (c k : Nat) : List (Upto c) := (List.range k).filterMap fun j => if h : j < c then some ⟨j, h⟩ else none
theorem upC_zero (c : Nat) : upC c 0 = [] := rfl
theorem upC_succ (c k : Nat) (h : k < c) : upC c (k + 1) = upC c k ++ [⟨k, h⟩] := by
  unfold upC
  rw [List.range_succ, List.filterMap_append]
  simp [h]
theorem upC_len (c k : Nat) (h : k ≤ c) : (upC c k).length = k := by
  induction k with
  | zero => rfl
  | succ k ih => rw [upC_succ c k (by omega), List.length_append, ih (by omega)]; rfl
theorem upC_mem (c k j : Nat) (h : j < k) (hk : k ≤ c) : ⟨j, by omega⟩ ∈ upC c k := by
  unfold upC
  rw [List.mem_filterMap]
  exact ⟨j, List.mem_range.2 h, by simp; omega⟩
theorem grown_mod {W W' : World} {row : Option Nat} {B : Nat} (h : W.grownBy W' row) (hr : ∀ r, row = some r → B ≤ r) : ∃ S, Mod S W W' ∧ ∀ x ∈ S, B ≤ x :=
  ⟨row.toList, Mod.of_grown h (by simp), fun x hx => hr x (by simpa using hx)⟩
theorem kf_far {B : Nat} {W W' : World} (m : Mod [] W W') : KeepsFrom B W W' := ⟨m.size, fun k o hk ho _ => (m.block k (Array.getElem?_eq_some_iff.1 ho).1 (by simp)).trans ho⟩
theorem kz_far {B : Nat} {W W' : World} (m : Mod [] W W') (hB : B ≤ W.heap.size) : Kz B W W' := ⟨m.size, fun k hk => m.block k (by omega) (by simp)⟩
theorem put_mod (W : World) (D : Nat) (o : Obj) : Mod [D] W (W.putObj D o) := ⟨rfl, rfl, rfl, by simp [World.putObj], fun k _ hk => World.putObj_heap_other (by simpa using hk)⟩
theorem wpAnyIn_round {F : Fence} {n : Nat} {P : Program} {md : Region.Mode} {ops : Array Oper} {Q : Exit → Act → World → Prop} (l : Nat) (hro : F.round = none) (hp : ∀ (i : Nat) (o : Oper), ops[i]? = some o → ∀ c, o.op ≠ .defer c) :
    ∀ (fuel : Nat) (listed : Array Bool) (a : Act) (w : World), wpAnyIn F n P md ops Q fuel listed a w → wpAnyIn (F.inRound l) n P md ops Q fuel listed a w := by
  intro fuel
  induction fuel with
  | zero => exact fun _ _ _ h => h
  | succ fuel ih =>
    intro listed a w h
    refine ⟨h.1, fun i hi => ?_⟩
    have h1 := wpOpIn_mono (fun a w => ih (listed.setIfInBounds i true) a w) (h.2 i hi)
    generalize wpAnyIn (F.inRound l) n P md ops Q fuel (listed.setIfInBounds i true) = K at h1 ⊢
    unfold wpOpIn at h1 ⊢
    cases ho : ops[i]? with
    | none => simpa only [ho] using h1
    | some o =>
      simp only [ho] at h1 ⊢
      split
      · rename_i hw
        simp only [hw, if_true] at h1
        refine ⟨h1.1, ?_⟩
        have h2 := h1.2
        rw [Oper.semAt_eq _ _ _ (hp i o ho)] at h2 ⊢
        generalize (execOp a.eval o).run P w = r at h2 ⊢
        cases r with
        | ok x w' => cases x <;> exact h2
        | halt x w' => cases x <;> exact h2
      · rename_i hw
        simp only [hw] at h1
        exact h1
abbrev ftF : Nat := 43
theorem depth_cell {w : World} {p n cap : Nat} {A : Option Addr} (k0 : w.cell? ⟨p, 0, none⟩ = some (.slice A n cap)) : Calls Try.prog 14 #[Pt p] w fun e w' => e = .returned (.int .i64 (n : Int)) ∧ w = w' := by
  go_enter Try.func14, Try.ntmps14
  go_wp2_with fail
  go_ret
  exact ⟨rfl, rfl⟩
def encP (c g : Nat) (x : Upto c) : Array Value := #[.int .i64 ((c - 1 - x.1 : Nat) : Int), .pointer (some ⟨g, (c - 1 - x.1) * 6, none⟩)]
set_option maxRecDepth 100000 in
set_option maxHeartbeats 2000000 in
theorem top1_in (n : Nat) (hn : 1 ≤ n) (l Bs B p g : Nat) (A : Option Addr) (c cap : Nat) (hc2 : c ≤ 128) (hB : Bs < B) (hp : p < B) (hA : 0 < c → A = some ⟨g, 0, none⟩)
    (J Jx : List (Upto c) → World → Prop)
    (hY : ∀ pre x W, J pre W → pre.length < c → YieldAt Fence.wide (n - 1) Try.prog l (encP c g x) W fun e W' =>
      (e = .returned (.bool true) ∧ J (pre ++ [x]) W' ∧ Kz B W W') ∨ (e = .returned (.bool false) ∧ Jx (pre ++ [x]) W'))
    (W : World) (hBs : W.cell? ⟨Bs, 0, none⟩ = some (Pt p)) (hc0 : W.cell? ⟨p, 0, none⟩ = some (.slice A c cap)) (h0 : J [] W) :
    CallsIn Fence.wide n Try.prog ftF #[.func (.yield l) #[] #[], .pointer (some ⟨Bs, 0, none⟩)] W fun e W' => (∃ v, e = .returned v) ∧
      ((∃ ys, ys = upC c c ∧ J ys W') ∨ (∃ pre, (∃ m, m ≤ c ∧ pre = upC c m) ∧ Jx pre W')) := by
  refine callsIn_of_wp Try.func43 rfl trivial ?_ rfl
  simp only [Try.ntmps43, List.size_toArray, List.length_cons, List.length_nil, Nat.reduceAdd, Nat.reduceSub, Array.replicate_succ, Array.replicate_zero, List.push_toArray, List.append_toArray, List.nil_append, List.cons_append]
  have hcI : (c : Int) ≤ 128 := by omega
  have HD := Lib.hid (depth_cell hc0)
  gi_wp2
  refine ⟨trivial, (callsIn_wide.2 HD.out).mono ?_⟩
  rintro e w' ⟨rfl, rfl⟩
  gi_wp2
  gi_loopw [3] (fun i wr => ∃ k : Nat, k ≤ c ∧ i = .int .i64 ((c : Int) - 1 - (k : Int)) ∧ J (upC c k) wr ∧ Kz B W wr)
    (fun i _ => (intOf i + 1).toNat)
  case atStart => exact ⟨0, Nat.zero_le _, by simp, h0, Kz.refl _ _⟩
  case round =>
    obtain ⟨k, hk, rfl, hJs, hnx⟩ := hrel
    have hbox := hnx.cell (x := ⟨Bs, 0, none⟩) hB hBs
    have hlist := hnx.cell (x := ⟨p, 0, none⟩) hp hc0
    by_cases hlt : k < c
    · obtain ⟨d, hd⟩ : ∃ d, d = c - 1 - k := ⟨_, rfl⟩
      have hdI : (c : Int) - 1 - (k : Int) = (d : Int) := by omega
      rw [hdI]
      have hA' := hA (by omega)
      rw [hA'] at hlist
      obtain ⟨fn, tmps, assign, body, hy, hR⟩ := hY _ ⟨k, hlt⟩ wr hJs (by rw [upC_len c k hk]; exact hlt)
      unfold encP at hy
      dsimp only at hy
      rw [← hd] at hy
      have hdc : (d : Int) < (c : Int) := by omega
      have hd0 : (0 : Int) ≤ (d : Int) := by omega
      have HDI := Lib.hid (And.intro hd hdI)
      clear hd hdI hA' hc0 hBs HD
      gi_wp2
      refine hR.mono ?_
      rintro e W3 (⟨rfl, hJ3, hk3⟩ | ⟨rfl, hJx3⟩)
      · gi_wp2
        go_roundw
        case rel => exact ⟨k + 1, by omega, by have := HDI.out.2; congr 1; omega, by rw [upC_succ c k hlt]; exact hJ3, hnx.trans hk3⟩
        case measure => have := HDI.out.2; simp [intOf]
      · gi_wp2
        refine bodyPost_ret (results_none rfl _ _ _) rfl ?_
        exact ⟨⟨_, rfl⟩, .inr ⟨_, ⟨k + 1, hlt, (upC_succ c k hlt).symm⟩, hJx3⟩⟩
    · obtain rfl : k = c := by omega
      have hdI : (k : Int) - 1 - (k : Int) = -1 := by omega
      rw [hdI]
      gi_wp2
      go_end0
      exact ⟨⟨_, rfl⟩, .inl ⟨_, rfl, hJs⟩⟩
theorem fromTop_in (n : Nat) (p : Nat) (w : World) :
    CallsIn Fence.wide n Try.prog 37 #[Pt p] w fun e w' => e = .returned (.func (.func ftF) #[] #[.pointer (some ⟨w.heap.size, 0, none⟩)]) ∧ w' = w.alloc (.cells #[Pt p] 24) := by
  refine callsIn_of_wp Try.func37 rfl trivial ?_ rfl
  simp only [Try.ntmps37, List.size_toArray, List.length_cons, List.length_nil, Nat.reduceAdd, Nat.reduceSub, Array.replicate_succ, Array.replicate_zero, List.push_toArray, List.append_toArray, List.nil_append, List.cons_append]
  gi_wp2
  go_ret
  exact ⟨rfl, rfl⟩
theorem top_stops (n : Nat) (hn : 1 ≤ n) (Bs p g : Nat) (A : Option Addr) (c cap : Nat) (hc2 : c ≤ 128) (w : World) (hB : Bs < w.heap.size) (hp : p < w.heap.size) (hA : 0 < c → A = some ⟨g, 0, none⟩)
    (hBs : w.cell? ⟨Bs, 0, none⟩ = some (Pt p)) (hc0 : w.cell? ⟨p, 0, none⟩ = some (.slice A c cap)) :
    SeqStopsK Fence.wide n Try.prog ftF #[.pointer (some ⟨Bs, 0, none⟩)] (encP c g) (Kz w.heap.size) (fun ys => ys = upC c c) (fun pre => ∃ m, m ≤ c ∧ pre = upC c m) c w := fun l J Jx W hW _ _ hY h0 =>
  top1_in n hn l Bs w.heap.size p g A c cap hc2 hB hp hA J Jx hY W ((hW.cell (p := ⟨Bs, 0, none⟩) hB).trans hBs) ((hW.cell (p := ⟨p, 0, none⟩) hp).trans hc0) h0
end Go.Proofs.Ytacmidlhfcnkiaa
