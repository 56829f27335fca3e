/- Layer 14 (package frame): the frames from the top (an iterator). Condition: as each says. Layer 14 (package frame): slices.Contains of kinds; topmost. Condition: the block is frames (Fv). Layer 14 (package frame): Index. Condition: the block is frames (Fv). -/
import Derived.RangeFuncNested
import Derived.RangeFuncBound
import Derived.RangeFuncCalls
import Derived.RangeFuncLeaves
import Derived.RangeFuncWrites
import Derived.Shelf.Abstract
import Derived.Shelf.RegionOpen
import Derived.OwnWalkIn
import Derived.TacticsInMore
import Derived.LoopNIn
import Derived.LoopIn
import Derived.Test.YtifnkmddinoneaaGreatDoorCBAS
set_option maxRecDepth 100000
namespace Go.Proofs.YtifnkmddinoneaaGreatDoor.L14
open Go.RowKit Go.Shelf
attribute [local go_sem] Oper.semAt_some
set_option linter.unusedVariables false

@[go_sem ↓] theorem callVal_yield (l : Nat) (p q xs : Array Value) : callVal (.func (.yield l) p q) xs = Instr.yield l (p ++ xs) := rfl
structure Kz (B : Nat) (W W' : World) : Prop where
  size : W.heap.size ≤ W'.heap.size
  block : ∀ k, k < B → W'.heap[k]? = W.heap[k]?
theorem Kz.refl (B : Nat) (W : World) : Kz B W W := ⟨Nat.le_refl _, fun _ _ => rfl⟩
theorem Kz.trans {B : Nat} {X Y Z : World} (h : Kz B X Y) (k : Kz B Y Z) : Kz B X Z := ⟨Nat.le_trans h.size k.size, fun i hi => (k.block i hi).trans (h.block i hi)⟩
theorem Kz.cell {B : Nat} {X Y : World} (h : Kz B X Y) {x : Addr} {v : Value} (h1 : x.block < B) (hc : X.cell? x = some v) : Y.cell? x = some v := (World.cell?_of_block (h.block x.block h1)).trans hc
theorem kz_put {B : Nat} {w : World} (hn : B ≤ w.heap.size) (W : World) (l : Nat) (o o' : Obj) (hl : w.heap.size ≤ l) (h : W.heap[l]? = some o) (_ : o.isCells = false) (_ : o.isWalk = false) : Kz B W (W.putObj l o') :=
  ⟨by simp [World.putObj], fun k hk => World.putObj_heap_other (by omega)⟩
abbrev Upto (c : Nat) := { j : Nat // j < c }
def upC (c k : Nat) : List (Upto c) := (List.range k).filterMap fun j => if h : j < c then some ⟨j, h⟩ else none
theorem upC_succ (c k : Nat) (h : k < c) : upC c (k + 1) = upC c k ++ [⟨k, h⟩] := by
  unfold upC
  rw [List.range_succ, List.filterMap_append]
  simp [h]
theorem upC_len (c k : Nat) (h : k ≤ c) : (upC c k).length = k := by
  induction k with
  | zero => rfl
  | succ k ih => rw [upC_succ c k (by omega), List.length_append, ih (by omega)]; rfl
theorem upC_mem (c k j : Nat) (h : j < k) (hk : k ≤ c) : ⟨j, by omega⟩ ∈ upC c k := by
  unfold upC
  rw [List.mem_filterMap]
  exact ⟨j, List.mem_range.2 h, by simp; omega⟩
theorem grown_mod {W W' : World} {row : Option Nat} {B : Nat} (h : W.grownBy W' row) (hr : ∀ r, row = some r → B ≤ r) : ∃ S, Mod S W W' ∧ ∀ x ∈ S, B ≤ x :=
  ⟨row.toList, Mod.of_grown h (by simp), fun x hx => hr x (by simpa using hx)⟩
theorem kf_far {B : Nat} {W W' : World} (m : Mod [] W W') : KeepsFrom B W W' := ⟨m.size, fun k o hk ho _ => (m.block k (Array.getElem?_eq_some_iff.1 ho).1 (by simp)).trans ho⟩
theorem kz_far {B : Nat} {W W' : World} (m : Mod [] W W') (hB : B ≤ W.heap.size) : Kz B W W' := ⟨m.size, fun k hk => m.block k (by omega) (by simp)⟩
theorem put_mod (W : World) (D : Nat) (o : Obj) : Mod [D] W (W.putObj D o) := ⟨rfl, rfl, rfl, by simp [World.putObj], fun k _ hk => World.putObj_heap_other (by simpa using hk)⟩
theorem wpAnyIn_round {F : Fence} {n : Nat} {P : Program} {md : Region.Mode} {ops : Array Oper} {Q : Exit → Act → World → Prop} (l : Nat) (hro : F.round = none) (hp : ∀ (i : Nat) (o : Oper), ops[i]? = some o → ∀ c, o.op ≠ .defer c) :
    ∀ (fuel : Nat) (listed : Array Bool) (a : Act) (w : World), wpAnyIn F n P md ops Q fuel listed a w → wpAnyIn (F.inRound l) n P md ops Q fuel listed a w := by
  intro fuel
  induction fuel with
  | zero => exact fun _ _ _ h => h
  | succ fuel ih =>
    intro listed a w h
    refine ⟨h.1, fun i hi => ?_⟩
    have h1 := wpOpIn_mono (fun a w => ih (listed.setIfInBounds i true) a w) (h.2 i hi)
    generalize wpAnyIn (F.inRound l) n P md ops Q fuel (listed.setIfInBounds i true) = K at h1 ⊢
    unfold wpOpIn at h1 ⊢
    cases ho : ops[i]? with
    | none => simpa only [ho] using h1
    | some o =>
      simp only [ho] at h1 ⊢
      split
      · rename_i hw
        simp only [hw, if_true] at h1
        refine ⟨h1.1, ?_⟩
        have h2 := h1.2
        rw [Oper.semAt_eq _ _ _ (hp i o ho)] at h2 ⊢
        generalize (execOp a.eval o).run P w = r at h2 ⊢
        cases r with
        | ok x w' => cases x <;> exact h2
        | halt x w' => cases x <;> exact h2
      · rename_i hw
        simp only [hw] at h1
        exact h1
abbrev ftF : Nat := 357
theorem depth_cell {w : World} {p n cap : Nat} {A : Option Addr} (k0 : w.cell? ⟨p, 0, none⟩ = some (.slice A n cap)) : Calls Tryz.prog 22 #[Pt p] w fun e w' => e = .returned (.int .i64 (n : Int)) ∧ w = w' := by
  go_enter Tryz.func22, Tryz.ntmps22
  go_wp2_with fail
  go_ret
  exact ⟨rfl, rfl⟩
def encP (c g : Nat) (x : Upto c) : Array Value := #[.int .i64 ((c - 1 - x.1 : Nat) : Int), .pointer (some ⟨g, (c - 1 - x.1) * 6, none⟩)]
set_option maxRecDepth 100000 in
set_option maxHeartbeats 2000000 in
theorem top1_in (n : Nat) (hn : 1 ≤ n) (l Bs B p g : Nat) (A : Option Addr) (c cap : Nat) (hc2 : c ≤ 128) (hB : Bs < B) (hp : p < B) (hA : 0 < c → A = some ⟨g, 0, none⟩)
    (J Jx : List (Upto c) → World → Prop)
    (hY : ∀ pre x W, J pre W → pre.length < c → YieldAt Fence.wide (n - 1) Tryz.prog l (encP c g x) W fun e W' =>
      (e = .returned (.bool true) ∧ J (pre ++ [x]) W' ∧ Kz B W W') ∨ (e = .returned (.bool false) ∧ Jx (pre ++ [x]) W'))
    (W : World) (hBs : W.cell? ⟨Bs, 0, none⟩ = some (Pt p)) (hc0 : W.cell? ⟨p, 0, none⟩ = some (.slice A c cap)) (h0 : J [] W) :
    CallsIn Fence.wide n Tryz.prog ftF #[.func (.yield l) #[] #[], .pointer (some ⟨Bs, 0, none⟩)] W fun e W' => (∃ v, e = .returned v) ∧
      ((∃ ys, ys = upC c c ∧ J ys W') ∨ (∃ pre, (∃ m, m ≤ c ∧ pre = upC c m) ∧ Jx pre W')) := by
  refine callsIn_of_wp Tryz.func357 rfl trivial ?_ rfl
  simp only [Tryz.ntmps357, List.size_toArray, List.length_cons, List.length_nil, Nat.reduceAdd, Nat.reduceSub, Array.replicate_succ, Array.replicate_zero, List.push_toArray, List.append_toArray, List.nil_append, List.cons_append]
  have hcI : (c : Int) ≤ 128 := by omega
  have HD := Lib.hid (depth_cell hc0)
  gi_wp2
  refine ⟨trivial, (callsIn_wide.2 HD.out).mono ?_⟩
  rintro e w' ⟨rfl, rfl⟩
  gi_wp2
  gi_loopw [3] (fun i wr => ∃ k : Nat, k ≤ c ∧ i = .int .i64 ((c : Int) - 1 - (k : Int)) ∧ J (upC c k) wr ∧ Kz B W wr)
    (fun i _ => (intOf i + 1).toNat)
  case atStart => exact ⟨0, Nat.zero_le _, by simp, h0, Kz.refl _ _⟩
  case round =>
    obtain ⟨k, hk, rfl, hJs, hnx⟩ := hrel
    have hbox := hnx.cell (x := ⟨Bs, 0, none⟩) hB hBs
    have hlist := hnx.cell (x := ⟨p, 0, none⟩) hp hc0
    by_cases hlt : k < c
    · obtain ⟨d, hd⟩ : ∃ d, d = c - 1 - k := ⟨_, rfl⟩
      have hdI : (c : Int) - 1 - (k : Int) = (d : Int) := by omega
      rw [hdI]
      have hA' := hA (by omega)
      rw [hA'] at hlist
      obtain ⟨fn, tmps, assign, body, hy, hR⟩ := hY _ ⟨k, hlt⟩ wr hJs (by rw [upC_len c k hk]; exact hlt)
      unfold encP at hy
      dsimp only at hy
      rw [← hd] at hy
      have hdc : (d : Int) < (c : Int) := by omega
      have hd0 : (0 : Int) ≤ (d : Int) := by omega
      have HDI := Lib.hid (And.intro hd hdI)
      clear hd hdI hA' hc0 hBs HD
      gi_wp2
      refine hR.mono ?_
      rintro e W3 (⟨rfl, hJ3, hk3⟩ | ⟨rfl, hJx3⟩)
      · gi_wp2
        go_roundw
        case rel => exact ⟨k + 1, by omega, by have := HDI.out.2; congr 1; omega, by rw [upC_succ c k hlt]; exact hJ3, hnx.trans hk3⟩
        case measure => have := HDI.out.2; simp [intOf]
      · gi_wp2
        refine bodyPost_ret (results_none rfl _ _ _) rfl ?_
        exact ⟨⟨_, rfl⟩, .inr ⟨_, ⟨k + 1, hlt, (upC_succ c k hlt).symm⟩, hJx3⟩⟩
    · obtain rfl : k = c := by omega
      have hdI : (k : Int) - 1 - (k : Int) = -1 := by omega
      rw [hdI]
      gi_wp2
      go_end0
      exact ⟨⟨_, rfl⟩, .inl ⟨_, rfl, hJs⟩⟩
theorem fromTop_in (n : Nat) (p : Nat) (w : World) :
    CallsIn Fence.wide n Tryz.prog 342 #[Pt p] w fun e w' => e = .returned (.func (.func ftF) #[] #[.pointer (some ⟨w.heap.size, 0, none⟩)]) ∧ w' = w.alloc (.cells #[Pt p] 41) := by
  refine callsIn_of_wp Tryz.func342 rfl trivial ?_ rfl
  simp only [Tryz.ntmps342, List.size_toArray, List.length_cons, List.length_nil, Nat.reduceAdd, Nat.reduceSub, Array.replicate_succ, Array.replicate_zero, List.push_toArray, List.append_toArray, List.nil_append, List.cons_append]
  gi_wp2
  go_ret
  exact ⟨rfl, rfl⟩
theorem top_stops (n : Nat) (hn : 1 ≤ n) (Bs p g : Nat) (A : Option Addr) (c cap : Nat) (hc2 : c ≤ 128) (w : World) (hB : Bs < w.heap.size) (hp : p < w.heap.size) (hA : 0 < c → A = some ⟨g, 0, none⟩)
    (hBs : w.cell? ⟨Bs, 0, none⟩ = some (Pt p)) (hc0 : w.cell? ⟨p, 0, none⟩ = some (.slice A c cap)) :
    SeqStopsK Fence.wide n Tryz.prog ftF #[.pointer (some ⟨Bs, 0, none⟩)] (encP c g) (Kz w.heap.size) (fun ys => ys = upC c c) (fun pre => ∃ m, m ≤ c ∧ pre = upC c m) c w := fun l J Jx W hW _ _ hY h0 =>
  top1_in n hn l Bs w.heap.size p g A c cap hc2 hB hp hA J Jx hY W ((hW.cell (p := ⟨Bs, 0, none⟩) hB).trans hBs) ((hW.cell (p := ⟨p, 0, none⟩) hp).trans hc0) h0
end Go.Proofs.YtifnkmddinoneaaGreatDoor.L14
namespace Go.Proofs.YtifnkmddinoneaaGreatDoor.L14
open Go.RowKit Go.Shelf
attribute [local go_sem] Oper.semAt_some
set_option linter.unusedVariables false

/-- r tells whether v is among ks. -/
def IdxR (ks : List Int) (v r : Int) : Prop := decide (0 ≤ r) = decide (v ∈ ks)
set_option maxHeartbeats 1000000 in
theorem idxI_calls {w : World} {A : Option Addr} {n cap : Nat} {ks : List Int} (hs : Sl w A ks) (hn : n = ks.length) (hb : n ≤ 1000) (v : Int) :
    Calls Tryz.prog 358 #[.slice A n cap, .int .i64 v] w fun e w' => ∃ r : Int, e = .returned (.int .i64 r) ∧ IdxR ks v r ∧ w' = w := by
  have HQ := Lib.hid hs
  have HN := Lib.hid hn
  have hbI : (n : Int) ≤ 1000 := by omega
  clear hs hn
  go_enter Tryz.func358, Tryz.ntmps358
  go_wp2_with fail
  go_loopw [8] (fun z wr => ∃ k : Nat, z = .int .i64 (k : Int) ∧ k ≤ n ∧ wr = w ∧ RowKit.Hid (∀ j (hj : j < ks.length), j < k → ks[j] ≠ v)) (fun z _ => n - (intOf z).toNat)
  case atStart => exact ⟨0, rfl, by omega, rfl, Lib.hid (fun j hj hk => by omega)⟩
  case round =>
    obtain ⟨k, rfl, hkn, rfl, hi⟩ := hrel
    by_cases hlt : k < n
    · have hltI : (k : Int) < (n : Int) := by omega
      have hkl : k < ks.length := by rw [← HN.out]; exact hlt
      obtain ⟨g, o, rfl, hc⟩ := HQ.out k hkl
      obtain ⟨y, hy⟩ : ∃ y, y = ks[k] := ⟨_, rfl⟩
      rw [← hy] at hc
      by_cases hv : v = y
      · have HD := Lib.hid (And.intro hy hv)
        have hvb : (v == y) = true := by simpa using hv
        clear hy hv
        go_wp2_with fail
        go_ret
        refine ⟨_, rfl, ?_, ?_⟩
        · unfold IdxR
          rw [decide_eq_true (by omega : (0 : Int) ≤ (k : Int)), eq_comm, decide_eq_true_iff, HD.out.2, HD.out.1]
          exact List.getElem_mem hkl
        · first | rfl | trivial
      · have HD := Lib.hid (And.intro hy hv)
        have hvb : (v == y) = false := by simpa using hv
        clear hy hv
        go_wp2_with fail
        go_roundw
        case rel => exact ⟨k + 1, by go_num, by omega, trivial, Lib.hid fun j hj hk => by
          by_cases e : j = k
          · subst e; exact fun h => HD.out.2 (by rw [HD.out.1, h])
          · exact hi.out j hj (by omega)⟩
        case measure => simp [intOf]; omega
    · have hltI : ¬ (k : Int) < (n : Int) := by omega
      go_wp2_with fail
      go_ret
      refine ⟨_, rfl, ?_, ?_⟩
      · unfold IdxR
        rw [decide_eq_false (by omega), eq_comm, decide_eq_false_iff_not]
        intro hm
        obtain ⟨j, hj, e⟩ := List.getElem_of_mem hm
        exact hi.out j hj (by have := HN.out; omega) e
      · first | rfl | trivial
theorem hasI_calls {w : World} {A : Option Addr} {n cap : Nat} {ks : List Int} (hs : Sl w A ks) (hn : n = ks.length) (hb : n ≤ 1000) (v : Int) :
    Calls Tryz.prog 344 #[.slice A n cap, .int .i64 v] w fun e w' => e = .returned (.bool (decide (v ∈ ks))) ∧ w' = w := by
  have K1 := Lib.hid (idxI_calls (cap := cap) hs hn hb v)
  clear hs hn hb
  unfold IdxR at K1
  obtain ⟨c, hc⟩ : ∃ c, c = decide (v ∈ ks) := ⟨_, rfl⟩
  rw [← hc] at K1 ⊢
  clear hc
  go_enter Tryz.func344, Tryz.ntmps344
  go_wp2_with fail
  refine (K1.out).mono ?_
  rintro e u1 ⟨r, rfl, hr, rfl⟩
  have HR := Lib.hid (show decide (0 ≤ r) = c from hr)
  clear hr
  go_wp2_with fail
  all_goals
    go_ret
    rw [← HR.out]
    first | exact ⟨rfl, rfl⟩ | exact ⟨rfl, trivial⟩ | (simp [*])
def kindsP (ks : List Int) (q : Fm) : Bool := decide (q.k ∈ ks)
def topI (ks : List Int) (L : List Fm) : Int := match topP (kindsP ks) L with
  | some i => (i : Int)
  | none => -1
def kindAt (O : List (Fm × Value)) (i : Nat) : Int := ((O[i]?).map fun q => q.1.k).getD 0
theorem kindAt_is {O : List (Fm × Value)} {i : Nat} (hi : i < O.length) : kindAt O i = O[i].1.k := by simp [kindAt, hi]
theorem topI_found {O : List (Fm × Value)} {ks : List Int} {i : Nat} (hi : i < O.length) (h1 : kindAt O i ∈ ks) (h2 : ∀ j, i < j → j < O.length → kindAt O j ∉ ks) : topI ks (O.map Prod.fst) = (i : Int) := by
  have e : O.map Prod.fst = (O.take i).map Prod.fst ++ O[i].1 :: (O.drop (i + 1)).map Prod.fst := by
    have e0 : O = O.take i ++ O[i] :: O.drop (i + 1) := by rw [← List.drop_eq_getElem_cons hi, List.take_append_drop]
    exact (congrArg (List.map Prod.fst) e0).trans (by rw [List.map_append, List.map_cons])
  unfold topI
  rw [e, topP_is]
  · simp; omega
  · unfold kindsP; rw [kindAt_is hi] at h1; exact decide_eq_true h1
  · intro b hb
    obtain ⟨q, hq, rfl⟩ := List.mem_map.1 hb
    obtain ⟨j, hj, rfl⟩ := List.getElem_of_mem hq
    have hj' : i + 1 + j < O.length := by simp at hj; omega
    have := h2 (i + 1 + j) (by omega) hj'
    rw [kindAt_is hj'] at this
    unfold kindsP
    rw [List.getElem_drop]
    exact decide_eq_false this
theorem topI_none {O : List (Fm × Value)} {ks : List Int} (h2 : ∀ j, j < O.length → kindAt O j ∉ ks) : topI ks (O.map Prod.fst) = -1 := by
  unfold topI
  rw [topP_none]
  intro b hb
  obtain ⟨q, hq, rfl⟩ := List.mem_map.1 hb
  obtain ⟨j, hj, rfl⟩ := List.getElem_of_mem hq
  have := h2 j hj
  rw [kindAt_is hj] at this
  exact decide_eq_false this
theorem three_alloc (w : World) (o0 o1 o2 : Obj) : (((w.alloc o0).alloc o1).alloc o2).heap.size = w.heap.size + 3 ∧ (((w.alloc o0).alloc o1).alloc o2).heap[w.heap.size]? = some o0 ∧ (((w.alloc o0).alloc o1).alloc o2).heap[w.heap.size + 1]? = some o1 ∧ (((w.alloc o0).alloc o1).alloc o2).heap[w.heap.size + 1 + 1]? = some o2 := by
  have z1 := size_allocI w o0
  have z2 := size_allocI (w.alloc o0) o1
  have z3 := size_allocI ((w.alloc o0).alloc o1) o2
  have a0 := (MapKept.heap_alloc w o0).1
  have a1 := (MapKept.heap_alloc (w.alloc o0) o1).1
  have a2 := (MapKept.heap_alloc ((w.alloc o0).alloc o1) o2).1
  rw [z1] at a1
  rw [z2, z1] at a2
  have m1 := al_mod (w.alloc o0) o1
  have m2 := al_mod ((w.alloc o0).alloc o1) o2
  refine ⟨by omega, ?_, ?_, a2⟩
  · exact (m2.block _ (by omega) (by simp)).trans ((m1.block _ (by omega) (by simp)).trans a0)
  · exact (m2.block _ (by omega) (by simp)).trans a1
set_option maxRecDepth 100000 in
set_option maxHeartbeats 8000000 in
theorem topmost_calls {w : World} {p : Nat} {v : Value} {O : List (Fm × Value)} (h : Fv TP w p v O) {a0 : Addr} {kn kc : Nat} {ks : List Int} (hks : Sl w (some a0) ks) (hkn : kn = ks.length) (hkb : kn ≤ 1000) :
    Calls Tryz.prog 303 #[Pt p, .slice (some a0) kn kc] w fun e w' => e = .returned (.int .i64 (topI ks (O.map Prod.fst))) ∧ Mod [] w w' := by
  have hfew := h.few
  obtain ⟨A, cap, rfl, _⟩ := h.slice
  obtain ⟨c, hc⟩ : ∃ c, c = O.length := ⟨_, rfl⟩
  rw [← hc] at h hfew
  obtain ⟨g, hg⟩ : ∃ g, 0 < c → A = some ⟨g, 0, none⟩ := by
    rcases h.row.2 with ⟨e, h0⟩ | ⟨g, cp, cur, e, _⟩
    · exact ⟨0, fun hp => by omega⟩
    · injection e with e1; exact ⟨g, fun _ => e1⟩
  have hgl : 0 < c → g < w.heap.size := fun hp => h.lv g (by rw [hg hp]; rfl)
  have hkind : ∀ i, i < c → w.cell? ⟨g, i * 6, none⟩ = some (.int .i64 (kindAt O i)) := fun i hi => by
    have hio : i < O.length := by omega
    have hO : O = O.take i ++ O[i] :: O.drop (i + 1) := by rw [← List.drop_eq_getElem_cons hio, List.take_append_drop]
    have h' := h
    rw [hO] at h'
    obtain ⟨g', cap', e, _, hcc, _⟩ := h'.at_
    have hg1 := hg (by omega)
    subst hg1
    injection e with e1
    injection e1 with e1
    injection e1 with e1
    subst e1
    have := hcc 0 (by omega)
    rw [List.length_take, Nat.min_eq_left (by omega)] at this
    rw [kindAt_is hio]
    exact this
  have hpl := h.lp
  have hc0 := h.c0
  obtain ⟨hsz, b0, b1, b2⟩ := three_alloc w (.cells #[.slice (some a0) kn kc] 72) (.cells #[.int .i64 0] 3) (.cells #[Pt p] 41)
  have M2 : Mod [] w (((w.alloc (.cells #[.slice (some a0) kn kc] 72)).alloc (.cells #[.int .i64 0] 3)).alloc (.cells #[Pt p] 41)) := ((al_mod w _).trans (al_mod _ _)).trans (al_mod _ _)
  have HN := Lib.hid (And.intro hc hkn)
  have HG := Lib.hid hg
  clear h hc hkn
  refine (callsIn_wide (n := 3)).1 ?_
  refine callsIn_of_wp_marks Tryz.func303 rfl trivial ?_ rfl
  simp only [Tryz.ntmps303, List.size_toArray, List.length_cons, List.length_nil, Nat.reduceAdd, Nat.reduceSub, Array.replicate_succ, Array.replicate_zero, List.push_toArray, List.append_toArray, List.nil_append, List.cons_append]
  gi_wp2
  refine ⟨trivial, (fromTop_in 2 p _).mono ?_⟩
  rintro e w' ⟨rfl, rfl⟩
  gi_wp2
  generalize ((w.alloc (.cells #[.slice (some a0) kn kc] 72)).alloc (.cells #[.int .i64 0] 3)).alloc (.cells #[Pt p] 41) = W2 at hsz M2 b0 b1 b2 ⊢
  have hks2 := hks.far M2
  have hkind2 : ∀ i, i < c → W2.cell? ⟨g, i * 6, none⟩ = some (.int .i64 (kindAt O i)) := fun i hi => M2.cell (by simp) (hkind i hi)
  have hc2 := M2.cell (x := ⟨p, 0, none⟩) (by simp) hc0
  clear hks hkind hc0
  have hfr : ∀ W, Mod [] W2 W → W.cell? ⟨w.heap.size + 1, 0, none⟩ = some (.int .i64 0) ∧ W.frozen? ⟨w.heap.size + 1, 0, none⟩ = false ∧ W.heap[w.heap.size + 1]? = some (.cells #[.int .i64 0] 3 (0, 0)) := fun W m => by
    have q := (m.block (w.heap.size + 1) (by omega) (by simp)).trans b1
    exact ⟨cell_eq q 0, frz_eq q 0, q⟩
  refine wpIn_rangeFunc_ownG (w0 := W2) rfl (by omega) (gf := ftF) (lb := #[.pointer (some ⟨w.heap.size + 1 + 1, 0, none⟩)]) rfl trivial (enters_of Tryz.func357 (by kernel_rfl) rfl)
    (top_stops 2 (by omega) (w.heap.size + 1 + 1) p g A c cap (by omega) W2 (by omega) (by omega) hg (cell_eq b2 0) hc2) Kz.trans (kz_put (Nat.le_refl _)) (Below.refl _ _) (fun _ => rfl)
    (fun pre W => Mod [] W2 W ∧ ∀ y ∈ pre, kindAt O (c - 1 - y.1) ∉ ks)
    (fun cd pre W => cd = .ret ∧ Mod [w.heap.size + 1] W2 W ∧ ∃ pre' x, pre = pre' ++ [x] ∧ kindAt O (c - 1 - x.1) ∈ ks ∧ (∀ y ∈ pre', kindAt O (c - 1 - y.1) ∉ ks) ∧ W.heap[w.heap.size + 1]? = some (.cells #[.int .i64 ((c - 1 - x.1 : Nat) : Int)] 3 (0, 0))) ?hI ?hIx ⟨Mod.refl _ _, by simp⟩
    (fun x => { tmps := #[Pt p, Value.slice (some a0) kn kc, undef, Value.pointer (some { block := w.heap.size, off := 0 }),
          Value.pointer (some { block := w.heap.size + 1, off := 0 }), .int .i64 ((c - 1 - x.1 : Nat) : Int), .pointer (some ⟨g, (c - 1 - x.1) * 6, none⟩), Pt p,
          Value.func (Fn.func ftF) #[] #[Value.pointer (some { block := w.heap.size + 1 + 1, off := 0 })], .int .i64 ((c - 1 - x.1 : Nat) : Int), .pointer (some ⟨g, (c - 1 - x.1) * 6, none⟩),
          undef, undef, undef, undef, undef, undef, undef], defers := [] }) ?assign ?body ?done ?stop
  case hI =>
    intro s W W' row hs hg hr
    obtain ⟨S, mS, hS⟩ := grown_mod hg (B := W2.heap.size) fun r e => (hr r e).1
    exact ⟨hs.1.then mS fun y hy => Or.inr (hS y hy), hs.2⟩
  case hIx =>
    intro cd s W W' row hs hg hr
    obtain ⟨S, mS, hS⟩ := grown_mod hg (B := W2.heap.size) fun r e => (hr r e).1
    obtain ⟨h1, h2, pre', x, h3, h4, h5, h6⟩ := hs
    refine ⟨h1, h2.then mS fun y hy => Or.inr (hS y hy), pre', x, h3, h4, h5, (mS.block _ (Array.getElem?_eq_some_iff.1 h6).1 fun hx => by have := hS _ hx; omega).trans h6⟩
  case assign =>
    intro l x W K hK
    simp only [encP]
    gi_wp2
    exact hK
  case stop =>
    rintro D cd pre W hD ⟨m, hm, e0⟩ ⟨rfl, mW, pre', x, e, hkx, hno, hres⟩ hK
    have hmem : ∀ j, j < x.1 → kindAt O (c - 1 - j) ∉ ks := fun j hj => by
      have hl := congrArg List.length (e0.symm.trans e)
      rw [upC_len c m hm, List.length_append, List.length_singleton] at hl
      obtain ⟨m', rfl⟩ : ∃ m', m = m' + 1 := ⟨m - 1, by omega⟩
      rw [upC_succ c m' hm] at e0
      obtain ⟨h1, h2⟩ := List.append_inj' (e0.symm.trans e) rfl
      have h3 : (⟨m', hm⟩ : Upto c) = x := by simpa using h2
      subst h3
      have h4 := upC_mem c m' j hj (by omega)
      rw [h1] at h4
      exact hno _ h4
    have hxc := x.2
    have hres2 := topI_found (O := O) (ks := ks) (i := c - 1 - x.1) (by have := HN.out.1; omega) hkx (fun j h1 h2 => by
      have h3 := hmem (c - 1 - j) (by have := HN.out.1; omega)
      rwa [show c - 1 - (c - 1 - j) = j by have := HN.out.1; omega] at h3)
    have hDne : D ≠ w.heap.size + 1 := by omega
    have mP := put_mod W D (.deferred none)
    have hr2 := (mP.block (w.heap.size + 1) (Array.getElem?_eq_some_iff.1 hres).1 (by simp; omega)).trans hres
    have hc2 : (W.putObj D (.deferred none)).cell? ⟨w.heap.size + 1, 0, none⟩ = some (.int .i64 ((c - 1 - x.1 : Nat) : Int)) := cell_eq hr2 0
    have HE := Lib.hid (And.intro mW (And.intro mP hres2))
    clear mW mP hres2 hmem hno hkx e e0 hres hr2
    gi_wp2
    refine ⟨by simp, .inl ⟨_, _, rfl, run_takeDeferred hK, ?_⟩⟩
    refine ⟨.int .i64 ((c - 1 - x.1 : Nat) : Int), by simp [results, Tryz.results303, go_sem, hc2], ?_, (M2.then HE.out.1 (fun y hy => Or.inr (by have := List.mem_singleton.1 hy; omega))).then HE.out.2.1 (fun y hy => Or.inr (by have := List.mem_singleton.1 hy; omega))⟩
    rw [HE.out.2.2]
  case body =>
    rintro l pre x W ⟨hm, hno⟩ hlen
    obtain ⟨r0, r1, r2⟩ := hfr W hm
    obtain ⟨ix, hix⟩ : ∃ ix, ix = c - 1 - x.1 := ⟨_, rfl⟩
    have hk := hm.cell (by simp) (hkind2 ix (by have := x.2; omega))
    have hb0 := hm.cell (x := ⟨w.heap.size, 0, none⟩) (by simp) (cell_eq b0 0)
    have HC := Lib.hid (hasI_calls (cap := kc) ((hks2.far hm).far (Mod.refl [] W).drew) HN.out.2 hkb (kindAt O ix))
    have HI := Lib.hid (And.intro hm (And.intro hno (And.intro r2 hix)))
    obtain ⟨kd, hkd⟩ : ∃ kd, kd = kindAt O ix := ⟨_, rfl⟩
    rw [← hkd] at hk HC
    rw [← hix]
    have HKD := Lib.hid hkd
    have hs0 := hm.size
    clear hm hno hix hkd r2 hks2 hkind2 hc2 b0 b1 b2 hfr
    have hmx : Tryz.prog.follows .mixedOrders = true := by kernel_rfl
    gi_wp2
    refine wpIn_region_any hmx ?_
    change wpAnyIn _ _ _ _ _ _ _ _ _ (World.drew _)
    refine wpAnyIn_round l rfl (fun i o ho c => ?_) _ _ _ _ ?_
    · rcases i with _ | _ | _ | _ | _ | _ | i <;> cases ho <;> intro h <;> cases h
    refine wpAnyIn_take (i := 1) (v := .pointer (some ⟨g, ix * 6, none⟩)) rfl rfl (by kernel_rfl) (by kernel_rfl) (by kernel_rfl) (fun _ _ _ h => h) ⟨Or.inl ⟨by rfl, fun w => by go_simp⟩, fun _ => rfl⟩ ?_
    refine wpAnyIn_take (i := 2) (v := .pointer (some ⟨g, ix * 6, none⟩)) rfl rfl (by kernel_rfl) (by kernel_rfl) (by kernel_rfl) (fun _ _ _ h => h) ⟨Or.inl ⟨by rfl, fun w => by go_simp⟩, fun _ => rfl⟩ ?_
    refine wpAnyIn_take (i := 3) (v := .pointer (some ⟨g, ix * 6, none⟩)) rfl rfl (by kernel_rfl) (by kernel_rfl) (by kernel_rfl) (fun _ _ _ h => h) ⟨Or.inl ⟨by rfl, fun w => by go_simp⟩, fun _ => rfl⟩ ?_
    refine wpAnyIn_ready (rs := [0, 4]) (by kernel_rfl) (by simp) ?_
    refine AllReadyIn.cons rfl (fun K hK => ?_) ?_
    · go_simp
      refine hK _ _ ?_; clear hK K
      refine wpAnyIn_ready (rs := [4]) (by kernel_rfl) (by simp) ?_
      refine AllReadyIn.cons rfl (fun K hK => ?_) ?_
      · go_simp
        refine hK _ _ ?_; clear hK K
        refine wpAnyIn_ready (rs := [5]) (by kernel_rfl) (by simp) ?_
        refine AllReadyIn.cons rfl (fun K hK => ?_) ?_
        · go_simp
          refine ⟨trivial, (callsIn_wide.2 HC.out).mono ?_⟩
          rintro e W' ⟨rfl, rfl⟩
          refine hK _ _ ?_; clear hK K
          refine wpAnyIn_done (by kernel_rfl) ?_ _
          by_cases hkk : kd ∈ ks
          · have q1 : decide (kd ∈ ks) = true := decide_eq_true hkk
            have HKK := Lib.hid hkk
            clear hkk
            gi_wp2
            have m0 : Mod [] W W.drew := (Mod.refl [] W).drew
            have hset := set_mod W.drew (w.heap.size + 1) 0 (.int .i64 (ix : Int))
            have hs1 := heap_setCell_same W.drew (w.heap.size + 1) 0 _ _ (.int .i64 (ix : Int)) ((m0.block _ (Array.getElem?_eq_some_iff.1 HI.out.2.2.1).1 (by simp)).trans HI.out.2.2.1)
            have hmm := (m0.up (T := [w.heap.size + 1]) (by simp)).trans hset
            refine ⟨⟨hmm.size, fun k' o hk' ho hoc => (hmm.block k' (Array.getElem?_eq_some_iff.1 ho).1 (by simp; omega)).trans ho⟩, rfl, (HI.out.1.up (by simp)).trans hmm, pre, x, rfl, ?_, HI.out.2.1, ?_⟩
            · rw [← HI.out.2.2.2, ← HKD.out]; exact HKK.out
            · rw [← HI.out.2.2.2]; exact hs1
          · have q1 : decide (kd ∈ ks) = false := decide_eq_false hkk
            have HKK := Lib.hid hkk
            clear hkk
            gi_wp2
            have m0 : Mod [] W W.drew := (Mod.refl [] W).drew
            refine ⟨kf_far m0, kz_far m0 hs0, HI.out.1.trans m0, fun y hy => ?_⟩
            rcases List.mem_append.1 hy with hy | hy
            · exact HI.out.2.1 y hy
            · rw [List.mem_singleton.1 hy, ← HI.out.2.2.2, ← HKD.out]; exact HKK.out
        exact AllReadyIn.nil
      exact AllReadyIn.nil
    refine AllReadyIn.cons rfl (fun K hK => ?_) ?_
    · go_simp
      refine hK _ _ ?_; clear hK K
      refine wpAnyIn_ready (rs := [0]) (by kernel_rfl) (by simp) ?_
      refine AllReadyIn.cons rfl (fun K hK => ?_) ?_
      · go_simp
        refine hK _ _ ?_; clear hK K
        refine wpAnyIn_ready (rs := [5]) (by kernel_rfl) (by simp) ?_
        refine AllReadyIn.cons rfl (fun K hK => ?_) ?_
        · go_simp
          refine ⟨trivial, (callsIn_wide.2 HC.out).mono ?_⟩
          rintro e W' ⟨rfl, rfl⟩
          refine hK _ _ ?_; clear hK K
          refine wpAnyIn_done (by kernel_rfl) ?_ _
          by_cases hkk : kd ∈ ks
          · have q1 : decide (kd ∈ ks) = true := decide_eq_true hkk
            have HKK := Lib.hid hkk
            clear hkk
            gi_wp2
            have m0 : Mod [] W W.drew := (Mod.refl [] W).drew
            have hset := set_mod W.drew (w.heap.size + 1) 0 (.int .i64 (ix : Int))
            have hs1 := heap_setCell_same W.drew (w.heap.size + 1) 0 _ _ (.int .i64 (ix : Int)) ((m0.block _ (Array.getElem?_eq_some_iff.1 HI.out.2.2.1).1 (by simp)).trans HI.out.2.2.1)
            have hmm := (m0.up (T := [w.heap.size + 1]) (by simp)).trans hset
            refine ⟨⟨hmm.size, fun k' o hk' ho hoc => (hmm.block k' (Array.getElem?_eq_some_iff.1 ho).1 (by simp; omega)).trans ho⟩, rfl, (HI.out.1.up (by simp)).trans hmm, pre, x, rfl, ?_, HI.out.2.1, ?_⟩
            · rw [← HI.out.2.2.2, ← HKD.out]; exact HKK.out
            · rw [← HI.out.2.2.2]; exact hs1
          · have q1 : decide (kd ∈ ks) = false := decide_eq_false hkk
            have HKK := Lib.hid hkk
            clear hkk
            gi_wp2
            have m0 : Mod [] W W.drew := (Mod.refl [] W).drew
            refine ⟨kf_far m0, kz_far m0 hs0, HI.out.1.trans m0, fun y hy => ?_⟩
            rcases List.mem_append.1 hy with hy | hy
            · exact HI.out.2.1 y hy
            · rw [List.mem_singleton.1 hy, ← HI.out.2.2.2, ← HKD.out]; exact HKK.out
        exact AllReadyIn.nil
      exact AllReadyIn.nil
    exact AllReadyIn.nil
  case done =>
    rintro D ys W hD rfl ⟨hm, hno⟩ hK
    obtain ⟨r0, r1, r2⟩ := hfr W hm
    have hres2 := topI_none (O := O) (ks := ks) fun j hj => by
      have h3 := hno ⟨c - 1 - j, by have := HN.out.1; omega⟩ (upC_mem c c (c - 1 - j) (by have := HN.out.1; omega) (Nat.le_refl _))
      rwa [show c - 1 - (c - 1 - j) = j by have := HN.out.1; omega] at h3
    have hset := set_mod W (w.heap.size + 1) 0 (.int .i64 (-1))
    have hs1 := heap_setCell_same W (w.heap.size + 1) 0 _ _ (.int .i64 (-1)) r2
    have hK2 := (hset.block D (Array.getElem?_eq_some_iff.1 hK).1 (by simp; omega)).trans hK
    have HE0 := Lib.hid (And.intro hm (And.intro hset (And.intro hs1 (And.intro hres2 hK2))))
    clear hm hset hs1 hres2 hK2 hno hK r2
    gi_wp2
    obtain ⟨hm, hset, hs1, hres2, hK2⟩ := HE0.out
    generalize W.setCell ⟨w.heap.size + 1, 0, none⟩ (.int .i64 (-1)) = X at *
    have mP := put_mod X D (.deferred none)
    have hr2 := (mP.block (w.heap.size + 1) (Array.getElem?_eq_some_iff.1 hs1).1 (by simp; omega)).trans hs1
    have hc2 : (X.putObj D (.deferred none)).cell? ⟨w.heap.size + 1, 0, none⟩ = some (.int .i64 (-1)) := cell_eq hr2 0
    refine ⟨by simp, .inl ⟨_, _, rfl, run_takeDeferred hK2, ?_⟩⟩
    refine ⟨.int .i64 (-1), by simp [results, Tryz.results303, go_sem, hc2], ?_, ((M2.trans hm).then hset (fun y hy => Or.inr (by have := List.mem_singleton.1 hy; omega))).then mP (fun y hy => Or.inr (by have := List.mem_singleton.1 hy; omega))⟩
    rw [hres2]
end Go.Proofs.YtifnkmddinoneaaGreatDoor.L14
namespace Go.Proofs.YtifnkmddinoneaaGreatDoor.L14
open Go.RowKit Go.Shelf
attribute [local go_sem] Oper.semAt_some
set_option linter.unusedVariables false

/-- What lay below B lies as it lay, but for the block b. -/
structure Kq (B b : Nat) (W W' : World) : Prop where
  size : W.heap.size ≤ W'.heap.size
  block : ∀ k, k < B → k ≠ b → W'.heap[k]? = W.heap[k]?
theorem Kq.refl (B b : Nat) (W : World) : Kq B b W W := ⟨Nat.le_refl _, fun _ _ _ => rfl⟩
theorem Kq.trans {B b : Nat} {X Y Z : World} (h : Kq B b X Y) (k : Kq B b Y Z) : Kq B b X Z := ⟨Nat.le_trans h.size k.size, fun i hi hb => (k.block i hi hb).trans (h.block i hi hb)⟩
theorem Kq.cell {B b : Nat} {X Y : World} (h : Kq B b X Y) {x : Addr} {v : Value} (h1 : x.block < B) (h2 : x.block ≠ b) (hc : X.cell? x = some v) : Y.cell? x = some v := (World.cell?_of_block (h.block x.block h1 h2)).trans hc
theorem kq_put {B b : Nat} {w : World} (hn : B ≤ w.heap.size) (W : World) (l : Nat) (o o' : Obj) (hl : w.heap.size ≤ l) (h : W.heap[l]? = some o) (_ : o.isCells = false) (_ : o.isWalk = false) : Kq B b W (W.putObj l o') :=
  ⟨by simp [World.putObj], fun k hk _ => World.putObj_heap_other (by omega)⟩
theorem kf_mod {B b : Nat} {W W' : World} (m : Mod [b] W W') (hb : b < B) (hB : B ≤ W.heap.size) : KeepsFrom B W W' :=
  ⟨m.size, fun k o hk ho _ => (m.block k (Array.getElem?_eq_some_iff.1 ho).1 (by simp; omega)).trans ho⟩
theorem kq_mod {B b : Nat} {W W' : World} (m : Mod [b] W W') (hB : B ≤ W.heap.size) : Kq B b W W' :=
  ⟨m.size, fun k hk hne => m.block k (by omega) (by simpa using hne)⟩
set_option maxRecDepth 100000 in
set_option maxHeartbeats 2000000 in
theorem top1q_in (n : Nat) (hn : 1 ≤ n) (l Bs B b p g : Nat) (A : Option Addr) (c cap : Nat) (hc2 : c ≤ 128) (hB : Bs < B) (hp : p < B) (hBb : Bs ≠ b) (hpb : p ≠ b) (hA : 0 < c → A = some ⟨g, 0, none⟩)
    (J Jx : List (Upto c) → World → Prop)
    (hY : ∀ pre x W, J pre W → pre.length < c → YieldAt Fence.wide (n - 1) Tryz.prog l (encP c g x) W fun e W' =>
      (e = .returned (.bool true) ∧ J (pre ++ [x]) W' ∧ Kq B b W W') ∨ (e = .returned (.bool false) ∧ Jx (pre ++ [x]) W'))
    (W : World) (hBs : W.cell? ⟨Bs, 0, none⟩ = some (Pt p)) (hc0 : W.cell? ⟨p, 0, none⟩ = some (.slice A c cap)) (h0 : J [] W) :
    CallsIn Fence.wide n Tryz.prog ftF #[.func (.yield l) #[] #[], .pointer (some ⟨Bs, 0, none⟩)] W fun e W' => (∃ v, e = .returned v) ∧
      ((∃ ys, ys = upC c c ∧ J ys W') ∨ (∃ pre, (∃ m, m ≤ c ∧ pre = upC c m) ∧ Jx pre W')) := by
  refine callsIn_of_wp Tryz.func357 rfl trivial ?_ rfl
  simp only [Tryz.ntmps357, List.size_toArray, List.length_cons, List.length_nil, Nat.reduceAdd, Nat.reduceSub, Array.replicate_succ, Array.replicate_zero, List.push_toArray, List.append_toArray, List.nil_append, List.cons_append]
  have hcI : (c : Int) ≤ 128 := by omega
  have HD := Lib.hid (depth_cell hc0)
  gi_wp2
  refine ⟨trivial, (callsIn_wide.2 HD.out).mono ?_⟩
  rintro e w' ⟨rfl, rfl⟩
  gi_wp2
  gi_loopw [3] (fun i wr => ∃ k : Nat, k ≤ c ∧ i = .int .i64 ((c : Int) - 1 - (k : Int)) ∧ J (upC c k) wr ∧ Kq B b W wr)
    (fun i _ => (intOf i + 1).toNat)
  case atStart => exact ⟨0, Nat.zero_le _, by simp, h0, Kq.refl _ _ _⟩
  case round =>
    obtain ⟨k, hk, rfl, hJs, hnx⟩ := hrel
    have hbox := hnx.cell (x := ⟨Bs, 0, none⟩) hB hBb hBs
    have hlist := hnx.cell (x := ⟨p, 0, none⟩) hp hpb hc0
    by_cases hlt : k < c
    · obtain ⟨d, hd⟩ : ∃ d, d = c - 1 - k := ⟨_, rfl⟩
      have hdI : (c : Int) - 1 - (k : Int) = (d : Int) := by omega
      rw [hdI]
      have hA' := hA (by omega)
      rw [hA'] at hlist
      obtain ⟨fn, tmps, assign, body, hy, hR⟩ := hY _ ⟨k, hlt⟩ wr hJs (by rw [upC_len c k hk]; exact hlt)
      unfold encP at hy
      dsimp only at hy
      rw [← hd] at hy
      have hdc : (d : Int) < (c : Int) := by omega
      have hd0 : (0 : Int) ≤ (d : Int) := by omega
      have HDI := Lib.hid (And.intro hd hdI)
      clear hd hdI hA' hc0 hBs HD
      gi_wp2
      refine hR.mono ?_
      rintro e W3 (⟨rfl, hJ3, hk3⟩ | ⟨rfl, hJx3⟩)
      · gi_wp2
        go_roundw
        case rel => exact ⟨k + 1, by omega, by have := HDI.out.2; congr 1; omega, by rw [upC_succ c k hlt]; exact hJ3, hnx.trans hk3⟩
        case measure => have := HDI.out.2; simp [intOf]
      · gi_wp2
        refine bodyPost_ret (results_none rfl _ _ _) rfl ?_
        exact ⟨⟨_, rfl⟩, .inr ⟨_, ⟨k + 1, hlt, (upC_succ c k hlt).symm⟩, hJx3⟩⟩
    · obtain rfl : k = c := by omega
      have hdI : (k : Int) - 1 - (k : Int) = -1 := by omega
      rw [hdI]
      gi_wp2
      go_end0
      exact ⟨⟨_, rfl⟩, .inl ⟨_, rfl, hJs⟩⟩
theorem topq_stops (n : Nat) (hn : 1 ≤ n) (Bs b p g : Nat) (A : Option Addr) (c cap : Nat) (hc2 : c ≤ 128) (w : World) (hB : Bs < w.heap.size) (hp : p < w.heap.size) (hBb : Bs ≠ b) (hpb : p ≠ b) (hA : 0 < c → A = some ⟨g, 0, none⟩)
    (hBs : w.cell? ⟨Bs, 0, none⟩ = some (Pt p)) (hc0 : w.cell? ⟨p, 0, none⟩ = some (.slice A c cap)) :
    SeqStopsK Fence.wide n Tryz.prog ftF #[.pointer (some ⟨Bs, 0, none⟩)] (encP c g) (Kq w.heap.size b) (fun ys => ys = upC c c) (fun pre => ∃ m, m ≤ c ∧ pre = upC c m) c w := fun l J Jx W hW _ _ hY h0 =>
  top1q_in n hn l Bs w.heap.size b p g A c cap hc2 hB hp hBb hpb hA J Jx hY W ((hW.cell (p := ⟨Bs, 0, none⟩) hB).trans hBs) ((hW.cell (p := ⟨p, 0, none⟩) hp).trans hc0) h0
def xAt (O : List (Fm × Value)) (i : Nat) : Int := ((O[i]?).map fun q => q.1.x).getD 0
theorem xAt_is {O : List (Fm × Value)} {i : Nat} (hi : i < O.length) : xAt O i = O[i].1.x := by simp [xAt, hi]
theorem split_at {O : List (Fm × Value)} {i : Nat} (hi : i < O.length) : O.map Prod.fst = (O.take i).map Prod.fst ++ O[i].1 :: (O.drop (i + 1)).map Prod.fst := by
  have e0 : O = O.take i ++ O[i] :: O.drop (i + 1) := by rw [← List.drop_eq_getElem_cons hi, List.take_append_drop]
  exact (congrArg (List.map Prod.fst) e0).trans (by rw [List.map_append, List.map_cons])
theorem index_found {O : List (Fm × Value)} {m : Nat} (hm : m < O.length) (h : ∀ j, j ≤ m → kindAt O (O.length - 1 - j) = 3) : indexL (m : Int) (O.map Prod.fst) = some (xAt O (O.length - 1 - m)) := by
  have hi : O.length - 1 - m < O.length := by omega
  unfold indexL
  rw [split_at hi, loopAt_is (by simp; omega), xAt_is hi]
  · rfl
  · intro b hb
    rcases List.mem_cons.1 hb with rfl | hb
    · rw [← kindAt_is hi]; exact h m (Nat.le_refl _)
    · obtain ⟨q, hq, rfl⟩ := List.mem_map.1 hb
      obtain ⟨j, hj, rfl⟩ := List.getElem_of_mem hq
      have hj' : O.length - 1 - m + 1 + j < O.length := by simp at hj; omega
      have h2 := h (m - 1 - j) (by omega)
      rw [show O.length - 1 - (m - 1 - j) = O.length - 1 - m + 1 + j by omega, kindAt_is hj'] at h2
      rw [List.getElem_drop]
      exact h2
theorem index_not {O : List (Fm × Value)} {n : Int} {m : Nat} (hm : m < O.length) (h : kindAt O (O.length - 1 - m) ≠ 3) (hn : ¬ (0 ≤ n ∧ n < (m : Int))) : indexL n (O.map Prod.fst) = none := by
  have hi : O.length - 1 - m < O.length := by omega
  unfold indexL
  by_cases h0 : 0 ≤ n
  · rw [split_at hi, loopAt_not (by simp; omega) (by rw [← kindAt_is hi]; exact h)]
    rfl
  · rw [loopAt_no fun hh => h0 hh.1]
    rfl
theorem index_no {O : List (Fm × Value)} {n : Int} (hn : ¬ (0 ≤ n ∧ n < (O.length : Int))) : indexL n (O.map Prod.fst) = none := by
  unfold indexL
  rw [loopAt_no (by simpa using hn)]
  rfl
theorem five_alloc (w : World) (o0 o1 o2 o3 o4 : Obj) : (((((w.alloc o0).alloc o1).alloc o2).alloc o3).alloc o4).heap.size = w.heap.size + 5 ∧ (((((w.alloc o0).alloc o1).alloc o2).alloc o3).alloc o4).heap[w.heap.size]? = some o0 ∧ (((((w.alloc o0).alloc o1).alloc o2).alloc o3).alloc o4).heap[w.heap.size + 1]? = some o1 ∧ (((((w.alloc o0).alloc o1).alloc o2).alloc o3).alloc o4).heap[w.heap.size + 1 + 1]? = some o2 ∧ (((((w.alloc o0).alloc o1).alloc o2).alloc o3).alloc o4).heap[w.heap.size + 1 + 1 + 1]? = some o3 ∧ (((((w.alloc o0).alloc o1).alloc o2).alloc o3).alloc o4).heap[w.heap.size + 1 + 1 + 1 + 1]? = some o4 := by
  obtain ⟨z, a0, a1, a2⟩ := three_alloc w o0 o1 o2
  generalize ((w.alloc o0).alloc o1).alloc o2 = Y at z a0 a1 a2 ⊢
  have z1 := size_allocI Y o3
  have z2 := size_allocI (Y.alloc o3) o4
  have b0 := (MapKept.heap_alloc Y o3).1
  have b1 := (MapKept.heap_alloc (Y.alloc o3) o4).1
  rw [z1] at b1
  rw [z] at b0 b1
  have m := (al_mod Y o3).trans (al_mod (Y.alloc o3) o4)
  refine ⟨by omega, (m.block _ (by omega) (by simp)).trans a0, (m.block _ (by omega) (by simp)).trans a1, (m.block _ (by omega) (by simp)).trans a2, ((al_mod (Y.alloc o3) o4).block _ (by omega) (by simp)).trans b0, b1⟩
theorem two_sets {W : World} {b1 b2 : Nat} {t1 t2 : TypeId} {u1 u2 : Value} (h1 : W.heap[b1]? = some (.cells #[u1] t1 (0, 0))) (h2 : W.heap[b2]? = some (.cells #[u2] t2 (0, 0))) (hne : b1 ≠ b2) (v1 v2 : Value) :
    ((W.setCell ⟨b1, 0, none⟩ v1).setCell ⟨b2, 0, none⟩ v2).heap[b1]? = some (.cells #[v1] t1 (0, 0)) ∧ ((W.setCell ⟨b1, 0, none⟩ v1).setCell ⟨b2, 0, none⟩ v2).heap[b2]? = some (.cells #[v2] t2 (0, 0)) ∧ Mod [b1, b2] W ((W.setCell ⟨b1, 0, none⟩ v1).setCell ⟨b2, 0, none⟩ v2) := by
  have s1 := heap_setCell_same W b1 0 _ _ v1 h1
  have m1 := set_mod W b1 0 v1
  have s2 := heap_setCell_same (W.setCell ⟨b1, 0, none⟩ v1) b2 0 _ _ v2 ((m1.block _ (Array.getElem?_eq_some_iff.1 h2).1 (by simp; omega)).trans h2)
  have m2 := set_mod (W.setCell ⟨b1, 0, none⟩ v1) b2 0 v2
  exact ⟨(m2.block _ (by simp [World.setCell]; exact (Array.getElem?_eq_some_iff.1 h1).1) (by simp; omega)).trans s1, s2, (m1.up (by simp)).trans (m2.up (by simp))⟩
set_option maxRecDepth 100000 in
set_option maxHeartbeats 8000000 in
theorem index_calls {w : World} {p : Nat} {v : Value} {O : List (Fm × Value)} (h : Fv TP w p v O) (t : Int) :
    Calls Tryz.prog 300 #[Pt p, .int .i64 t] w fun e w' => e = .returned (.tuple #[.int .i64 ((indexL t (O.map Prod.fst)).getD 0), .int .i64 (orE (-26) (indexL t (O.map Prod.fst)))]) ∧ Mod [] w w' := by
  have hfew := h.few
  obtain ⟨A, cap, rfl, _⟩ := h.slice
  obtain ⟨c, hc⟩ : ∃ c, c = O.length := ⟨_, rfl⟩
  rw [← hc] at h hfew
  obtain ⟨g, hg⟩ : ∃ g, 0 < c → A = some ⟨g, 0, none⟩ := by
    rcases h.row.2 with ⟨e, h0⟩ | ⟨g, cp, cur, e, _⟩
    · exact ⟨0, fun hp => by omega⟩
    · injection e with e1; exact ⟨g, fun _ => e1⟩
  have hgl : 0 < c → g < w.heap.size := fun hp => h.lv g (by rw [hg hp]; rfl)
  have hkind : ∀ i, i < c → w.cell? ⟨g, i * 6, none⟩ = some (.int .i64 (kindAt O i)) ∧ w.cell? ⟨g, i * 6 + 3, none⟩ = some (.int .i64 (xAt O i)) := fun i hi => by
    have hio : i < O.length := by omega
    have hO : O = O.take i ++ O[i] :: O.drop (i + 1) := by rw [← List.drop_eq_getElem_cons hio, List.take_append_drop]
    have h' := h
    rw [hO] at h'
    obtain ⟨g', cap', e, _, hcc, _⟩ := h'.at_
    have hg1 := hg (by omega)
    subst hg1
    injection e with e1
    injection e1 with e1
    injection e1 with e1
    subst e1
    have h0 := hcc 0 (by omega)
    have h3 := hcc 3 (by omega)
    rw [List.length_take, Nat.min_eq_left (by omega)] at h0 h3
    rw [kindAt_is hio, xAt_is hio]
    exact ⟨h0, h3⟩
  have hpl := h.lp
  have hc0 := h.c0
  obtain ⟨hsz, b0, b1, b2, b3, b4⟩ := five_alloc w (.cells #[.int .i64 t] 3) (.cells #[.int .i64 0] 33) (.cells #[.int .i64 0] 29) (.cells #[.int .i64 0] 3) (.cells #[Pt p] 41)
  have M2 : Mod [] w (((((w.alloc (.cells #[.int .i64 t] 3)).alloc (.cells #[.int .i64 0] 33)).alloc (.cells #[.int .i64 0] 29)).alloc (.cells #[.int .i64 0] 3)).alloc (.cells #[Pt p] 41)) := ((((al_mod w _).trans (al_mod _ _)).trans (al_mod _ _)).trans (al_mod _ _)).trans (al_mod _ _)
  have HN := Lib.hid hc
  clear h hc
  refine (callsIn_wide (n := 3)).1 ?_
  refine callsIn_of_wp_marks Tryz.func300 rfl trivial ?_ rfl
  simp only [Tryz.ntmps300, List.size_toArray, List.length_cons, List.length_nil, Nat.reduceAdd, Nat.reduceSub, Array.replicate_succ, Array.replicate_zero, List.push_toArray, List.append_toArray, List.nil_append, List.cons_append]
  gi_wp2
  refine ⟨trivial, (fromTop_in 2 p _).mono ?_⟩
  rintro e w' ⟨rfl, rfl⟩
  gi_wp2
  generalize ((((w.alloc (.cells #[.int .i64 t] 3)).alloc (.cells #[.int .i64 0] 33)).alloc (.cells #[.int .i64 0] 29)).alloc (.cells #[.int .i64 0] 3)).alloc (.cells #[Pt p] 41) = W2 at hsz M2 b0 b1 b2 b3 b4 ⊢
  have hkind2 : ∀ i, i < c → W2.cell? ⟨g, i * 6, none⟩ = some (.int .i64 (kindAt O i)) ∧ W2.cell? ⟨g, i * 6 + 3, none⟩ = some (.int .i64 (xAt O i)) := fun i hi => ⟨M2.cell (by simp) (hkind i hi).1, M2.cell (by simp) (hkind i hi).2⟩
  have hc2 := M2.cell (x := ⟨p, 0, none⟩) (by simp) hc0
  clear hkind hc0
  have hfr : ∀ W, Mod [w.heap.size + 1 + 1 + 1] W2 W → W.heap[w.heap.size]? = some (.cells #[.int .i64 t] 3 (0, 0)) ∧ W.heap[w.heap.size + 1]? = some (.cells #[.int .i64 0] 33 (0, 0)) ∧ W.heap[w.heap.size + 1 + 1]? = some (.cells #[.int .i64 0] 29 (0, 0)) := fun W m =>
    ⟨(m.block _ (by omega) (by simp; omega)).trans b0, (m.block _ (by omega) (by simp)).trans b1, (m.block _ (by omega) (by simp)).trans b2⟩
  refine wpIn_rangeFunc_ownG (w0 := W2) rfl (by omega) (gf := ftF) (lb := #[.pointer (some ⟨w.heap.size + 1 + 1 + 1 + 1, 0, none⟩)]) rfl trivial (enters_of Tryz.func357 (by kernel_rfl) rfl)
    (topq_stops 2 (by omega) (w.heap.size + 1 + 1 + 1 + 1) (w.heap.size + 1 + 1 + 1) p g A c cap (by omega) W2 (by omega) (by omega) (by omega) (by omega) hg (cell_eq b4 0) hc2) Kq.trans (kq_put (Nat.le_refl _)) (Below.refl _ _) (fun _ => rfl)
    (fun pre W => Mod [w.heap.size + 1 + 1 + 1] W2 W ∧ W.heap[w.heap.size + 1 + 1 + 1]? = some (.cells #[.int .i64 (pre.length : Int)] 3 (0, 0)) ∧ (∀ y ∈ pre, kindAt O (c - 1 - y.1) = 3) ∧ ¬ (0 ≤ t ∧ t < (pre.length : Int)))
    (fun cd pre W => ∃ pre' x, pre = pre' ++ [x] ∧ (∀ y ∈ pre', kindAt O (c - 1 - y.1) = 3) ∧ ((cd = .exit 0 ∧ Mod [w.heap.size + 1 + 1 + 1] W2 W ∧ kindAt O (c - 1 - x.1) ≠ 3 ∧ ¬ (0 ≤ t ∧ t < (pre'.length : Int))) ∨
      (cd = .ret ∧ Mod [w.heap.size + 1, w.heap.size + 1 + 1, w.heap.size + 1 + 1 + 1] W2 W ∧ kindAt O (c - 1 - x.1) = 3 ∧ t = (pre'.length : Int) ∧ W.heap[w.heap.size + 1]? = some (.cells #[.int .i64 (xAt O (c - 1 - x.1))] 33 (0, 0)) ∧ W.heap[w.heap.size + 1 + 1]? = some (.cells #[.int .i64 0] 29 (0, 0))))) ?hI ?hIx ⟨Mod.refl _ _, b3, by simp, by simp⟩
    (fun x => { tmps := #[Pt p, Value.int .i64 t, undef, Value.pointer (some { block := w.heap.size, off := 0 }),
          Value.pointer (some { block := w.heap.size + 1, off := 0 }), Value.pointer (some { block := w.heap.size + 1 + 1, off := 0 }), Value.pointer (some { block := w.heap.size + 1 + 1 + 1, off := 0 }), undef, .pointer (some ⟨g, (c - 1 - x.1) * 6, none⟩), Pt p, .bool false, Pt p,
          Value.func (Fn.func ftF) #[] #[Value.pointer (some { block := w.heap.size + 1 + 1 + 1 + 1, off := 0 })], .int .i64 ((c - 1 - x.1 : Nat) : Int), .pointer (some ⟨g, (c - 1 - x.1) * 6, none⟩),
          undef, undef, undef, undef, undef, undef, undef, undef, undef, undef, undef, undef, undef, undef], defers := [] }) ?assign ?body ?done ?stop
  case hI =>
    intro s W W' row hs hg hr
    obtain ⟨S, mS, hS⟩ := grown_mod hg (B := W2.heap.size) fun r e => (hr r e).1
    exact ⟨hs.1.then mS fun y hy => Or.inr (hS y hy), (mS.block _ (Array.getElem?_eq_some_iff.1 hs.2.1).1 fun hx => by have := hS _ hx; omega).trans hs.2.1, hs.2.2⟩
  case hIx =>
    intro cd s W W' row hs hg hr
    obtain ⟨S, mS, hS⟩ := grown_mod hg (B := W2.heap.size) fun r e => (hr r e).1
    obtain ⟨pre', x, h1, h2, h3⟩ := hs
    refine ⟨pre', x, h1, h2, h3.imp (fun ⟨k1, k2, k3⟩ => ⟨k1, k2.then mS fun y hy => Or.inr (hS y hy), k3⟩) fun ⟨k1, k2, k3, k4, k5, k6⟩ => ⟨k1, k2.then mS fun y hy => Or.inr (hS y hy), k3, k4, ?_, ?_⟩⟩
    · exact (mS.block _ (Array.getElem?_eq_some_iff.1 k5).1 fun hx => by have := hS _ hx; omega).trans k5
    · exact (mS.block _ (Array.getElem?_eq_some_iff.1 k6).1 fun hx => by have := hS _ hx; omega).trans k6
  case assign =>
    intro l x W K hK
    simp only [encP]
    gi_wp2
    exact hK
  case stop =>
    rintro D cd pre W hD ⟨m, hm, e0⟩ ⟨pre', x, e, hall, hcase⟩ hK
    obtain ⟨m', rfl⟩ : ∃ m', m = m' + 1 := ⟨m - 1, by
      have hl := congrArg List.length (e0.symm.trans e)
      rw [upC_len c m hm, List.length_append, List.length_singleton] at hl
      omega⟩
    rw [upC_succ c m' hm] at e0
    obtain ⟨h1, h2⟩ := List.append_inj' (e0.symm.trans e) rfl
    have h3 : x = ⟨m', hm⟩ := by simpa using h2.symm
    subst h3
    have hlen : pre'.length = m' := by rw [← h1, upC_len c m' (by omega)]
    have hmem : ∀ j, j < m' → kindAt O (O.length - 1 - j) = 3 := fun j hj => by
      have h4 := upC_mem c m' j hj (by omega)
      rw [h1] at h4
      have h5 := hall _ h4
      rw [← HN.out]
      exact h5
    clear h1 h2 e e0 hall
    rcases hcase with ⟨rfl, mW, hkx, hnt⟩ | ⟨rfl, mW, hkx, ht, hr1, hr2⟩
    · have hres := index_not (O := O) (n := t) (m := m') (by have := HN.out; omega) (by rw [← HN.out]; exact hkx) (by rw [← hlen]; exact hnt)
      obtain ⟨q0, q1, q2⟩ := hfr W mW
      obtain ⟨z1, z2, z3⟩ := two_sets q1 q2 (by omega) (.int .i64 0) (.int .i64 (-26))
      have c1 := cell_eq q1 0
      have c2 := cell_eq q2 0
      have f1 := frz_eq q1 0
      have f2 := frz_eq q2 0
      have hK2 := (z3.block D (Array.getElem?_eq_some_iff.1 hK).1 (by simp; omega)).trans hK
      have HE0 := Lib.hid (And.intro mW (And.intro z1 (And.intro z2 (And.intro z3 (And.intro hres hK2)))))
      clear hkx hnt mW hres hmem hfr q0 q1 q2 z1 z2 z3 hK2
      gi_wp2
      obtain ⟨hm, hs1, hs2, hset, hres2, hK2⟩ := HE0.out
      generalize (W.setCell ⟨w.heap.size + 1, 0, none⟩ (.int .i64 0)).setCell ⟨w.heap.size + 1 + 1, 0, none⟩ (.int .i64 (-26)) = X at *
      have mP := put_mod X D (.deferred none)
      have d1 := cell_eq ((mP.block (w.heap.size + 1) (Array.getElem?_eq_some_iff.1 hs1).1 (by simp; omega)).trans hs1) 0
      have d2 := cell_eq ((mP.block (w.heap.size + 1 + 1) (Array.getElem?_eq_some_iff.1 hs2).1 (by simp; omega)).trans hs2) 0
      refine ⟨by simp, .inl ⟨_, _, rfl, run_takeDeferred hK2, ?_⟩⟩
      refine ⟨.tuple #[.int .i64 0, .int .i64 (-26)], by simp [results, Tryz.results300, go_sem, d1, d2], ?_, ((M2.then hm (fun y hy => Or.inr (by have := List.mem_singleton.1 hy; omega))).then hset (fun y hy => Or.inr (by simp at hy; omega))).then mP (fun y hy => Or.inr (by have := List.mem_singleton.1 hy; omega))⟩
      rw [hres2]
      rfl
    · have hres := index_found (O := O) (m := m') (by have := HN.out; omega) (fun j hj => by
        by_cases e : j = m'
        · subst e; rw [← HN.out]; exact hkx
        · exact hmem j (by omega))
      have hDne : D ≠ w.heap.size + 1 ∧ D ≠ w.heap.size + 1 + 1 := by omega
      have mP := put_mod W D (.deferred none)
      have hr1' := (mP.block (w.heap.size + 1) (Array.getElem?_eq_some_iff.1 hr1).1 (by simp; omega)).trans hr1
      have hr2' := (mP.block (w.heap.size + 1 + 1) (Array.getElem?_eq_some_iff.1 hr2).1 (by simp; omega)).trans hr2
      have d1 := cell_eq hr1' 0
      have d2 := cell_eq hr2' 0
      have HE := Lib.hid (And.intro mW (And.intro mP (And.intro hres (And.intro ht hlen))))
      clear hkx ht mW mP hres hmem hfr hr1 hr2 hr1' hr2' hlen
      gi_wp2
      refine ⟨by simp, .inl ⟨_, _, rfl, run_takeDeferred hK, ?_⟩⟩
      refine ⟨.tuple #[.int .i64 (xAt O (c - 1 - m')), .int .i64 0], by simp [results, Tryz.results300, go_sem, d1, d2], ?_, (M2.then HE.out.1 (fun y hy => Or.inr (by simp at hy; omega))).then HE.out.2.1 (fun y hy => Or.inr (by have := List.mem_singleton.1 hy; omega))⟩
      rw [HE.out.2.2.2.1, HE.out.2.2.2.2, HE.out.2.2.1, HN.out]
      rfl
  case body =>
    rintro l pre x W ⟨hm, hb3, hall, hnt⟩ hlen
    obtain ⟨q0, q1, q2⟩ := hfr W hm
    obtain ⟨ix, hix⟩ : ∃ ix, ix = c - 1 - x.1 := ⟨_, rfl⟩
    have hgne : g ≠ w.heap.size + 1 + 1 + 1 := by have := hgl (by have := x.2; omega); omega
    have hk := hm.cell (by simpa using hgne) (hkind2 ix (by have := x.2; omega)).1
    have hxv := hm.cell (by simpa using hgne) (hkind2 ix (by have := x.2; omega)).2
    have c0 := cell_eq q0 0
    have c1 := cell_eq q1 0
    have f1 := frz_eq q1 0
    have c2 := cell_eq q2 0
    have f2 := frz_eq q2 0
    have c3 := cell_eq hb3 0
    have f3 := frz_eq hb3 0
    obtain ⟨kd, hkd⟩ : ∃ kd, kd = kindAt O ix := ⟨_, rfl⟩
    obtain ⟨xd, hxd⟩ : ∃ xd, xd = xAt O ix := ⟨_, rfl⟩
    obtain ⟨pl, hpl2⟩ : ∃ pl, pl = pre.length := ⟨_, rfl⟩
    rw [← hkd] at hk
    rw [← hxd] at hxv
    rw [← hpl2] at c3 hb3 hnt hlen
    have hplI : (pl : Int) ≤ 128 := by omega
    have HI := Lib.hid (And.intro hm (And.intro hall (And.intro q1 (And.intro q2 (And.intro hb3 (And.intro hnt (And.intro hkd (And.intro hxd (And.intro hpl2 hix)))))))))
    rw [← hix]
    have hs0 := hm.size
    clear hm hall hix hkd hxd hpl2 q0 q1 q2 hb3 hkind2 hc2 b0 b1 b2 b3 b4 hfr hnt hlen
    by_cases hkk : kd = 3
    · by_cases ht : (pl : Int) = t
      · have q1 : ((pl : Int) == t) = true := by simpa using ht
        have q2 : (kd == 3) = true := by simpa using hkk
        have HKK := Lib.hid (And.intro hkk ht)
        clear hkk ht
        gi_wp2
        obtain ⟨hm, hall, k1, k2, hb3, hnt, hkd, hxd, hpl2, hix⟩ := HI.out
        obtain ⟨z1, z2, z3⟩ := two_sets k1 k2 (by omega) (.int .i64 xd) (.int .i64 0)
        refine ⟨⟨z3.size, fun k' o hk' ho hoc => (z3.block k' (Array.getElem?_eq_some_iff.1 ho).1 (by simp; omega)).trans ho⟩, pre, x, rfl, hall, Or.inr ⟨rfl, (hm.up (by simp)).trans (z3.up (by simp)), ?_, ?_, ?_, z2⟩⟩
        · rw [← hix, ← hkd]; exact HKK.out.1
        · rw [← hpl2]; exact HKK.out.2.symm
        · rw [← hix, ← hxd]; exact z1
      · have q1 : ((pl : Int) == t) = false := by simpa using ht
        have q2 : (kd == 3) = true := by simpa using hkk
        have HKK := Lib.hid (And.intro hkk ht)
        clear hkk ht
        gi_wp2
        obtain ⟨hm, hall, k1, k2, hb3, hnt, hkd, hxd, hpl2, hix⟩ := HI.out
        have hset := set_mod W (w.heap.size + 1 + 1 + 1) 0 (.int .i64 ((pl : Int) + 1))
        have hs1 := heap_setCell_same W (w.heap.size + 1 + 1 + 1) 0 _ _ (.int .i64 ((pl : Int) + 1)) hb3
        refine ⟨kf_mod hset (by omega) hs0, kq_mod hset hs0, hm.trans hset, ?_, fun y hy => ?_, ?_⟩
        · rw [List.length_append, List.length_singleton, ← hpl2]; exact hs1
        · rcases List.mem_append.1 hy with hy | hy
          · exact hall y hy
          · rw [List.mem_singleton.1 hy, ← hix, ← hkd]; exact HKK.out.1
        · rw [List.length_append, List.length_singleton, ← hpl2]
          have := HKK.out.2
          omega
    · have q2 : (kd == 3) = false := by simpa using hkk
      have HKK := Lib.hid hkk
      clear hkk
      gi_wp2
      obtain ⟨hm, hall, q1, q2, hb3, hnt, hkd, hxd, hpl2, hix⟩ := HI.out
      refine ⟨KeepsFrom.refl _ _, pre, x, rfl, hall, Or.inl ⟨rfl, hm, ?_, ?_⟩⟩
      · rw [← hix, ← hkd]; exact HKK.out
      · rw [← hpl2]; exact hnt
  case done =>
    rintro D ys W hD rfl ⟨hm, hb3, hall, hnt⟩ hK
    rw [upC_len c c (Nat.le_refl _)] at hnt
    have hres := index_no (O := O) (n := t) (by rw [← HN.out]; exact hnt)
    obtain ⟨q0, q1, q2⟩ := hfr W hm
    obtain ⟨z1, z2, z3⟩ := two_sets q1 q2 (by omega) (.int .i64 0) (.int .i64 (-26))
    have c1 := cell_eq q1 0
    have c2 := cell_eq q2 0
    have f1 := frz_eq q1 0
    have f2 := frz_eq q2 0
    have hK2 := (z3.block D (Array.getElem?_eq_some_iff.1 hK).1 (by simp; omega)).trans hK
    have HE0 := Lib.hid (And.intro hm (And.intro z1 (And.intro z2 (And.intro z3 (And.intro hres hK2)))))
    clear hm hres hfr q0 q1 q2 z1 z2 z3 hK2 hb3 hall hnt hK
    gi_wp2
    obtain ⟨hm, hs1, hs2, hset, hres2, hK2⟩ := HE0.out
    generalize (W.setCell ⟨w.heap.size + 1, 0, none⟩ (.int .i64 0)).setCell ⟨w.heap.size + 1 + 1, 0, none⟩ (.int .i64 (-26)) = X at *
    have mP := put_mod X D (.deferred none)
    have d1 := cell_eq ((mP.block (w.heap.size + 1) (Array.getElem?_eq_some_iff.1 hs1).1 (by simp; omega)).trans hs1) 0
    have d2 := cell_eq ((mP.block (w.heap.size + 1 + 1) (Array.getElem?_eq_some_iff.1 hs2).1 (by simp; omega)).trans hs2) 0
    refine ⟨by simp, .inl ⟨_, _, rfl, run_takeDeferred hK2, ?_⟩⟩
    refine ⟨.tuple #[.int .i64 0, .int .i64 (-26)], by simp [results, Tryz.results300, go_sem, d1, d2], ?_, ((M2.then hm (fun y hy => Or.inr (by have := List.mem_singleton.1 hy; omega))).then hset (fun y hy => Or.inr (by simp at hy; omega))).then mP (fun y hy => Or.inr (by have := List.mem_singleton.1 hy; omega))⟩
    rw [hres2]
    rfl
end Go.Proofs.YtifnkmddinoneaaGreatDoor.L14
