/- Layer 11 (package flow): the topmost part of a kind. Condition: the block is a builder (Bv) of at most 1000 parts. -/
import Derived.Test.YtnclfopdgilgaaaFJ
import Derived.RangeFuncNested
import Derived.RangeFuncBound
import Derived.RangeFuncCalls
import Derived.RangeFuncLeaves
import Derived.RangeFuncWrites
import Derived.Shelf.Abstract
import Derived.Shelf.RegionOpen
import Derived.OwnWalkIn
import Derived.TacticsInMore
import Derived.LoopNIn
import Derived.LoopIn
namespace Go.Proofs.Ytnclfopdgilgaaa
open Go.RowKit Go.Shelf
attribute [local go_sem] Oper.semAt_some
set_option linter.unusedVariables false

@[go_sem ↓] theorem callVal_yield (l : Nat) (p q xs : Array Value) : callVal (.func (.yield l) p q) xs = Instr.yield l (p ++ xs) := rfl
/-- What lay below B lies as it lay. -/
structure Kz (B : Nat) (W W' : World) : Prop where
  size : W.heap.size ≤ W'.heap.size
  block : ∀ k, k < B → W'.heap[k]? = W.heap[k]?
theorem Kz.refl (B : Nat) (W : World) : Kz B W W := ⟨Nat.le_refl _, fun _ _ => rfl⟩
theorem Kz.trans {B : Nat} {X Y Z : World} (h : Kz B X Y) (k : Kz B Y Z) : Kz B X Z := ⟨Nat.le_trans h.size k.size, fun i hi => (k.block i hi).trans (h.block i hi)⟩
theorem Kz.cell {B : Nat} {X Y : World} (h : Kz B X Y) {x : Addr} {v : Value} (h1 : x.block < B) (hc : X.cell? x = some v) : Y.cell? x = some v := (World.cell?_of_block (h.block x.block h1)).trans hc
theorem kz_put {B : Nat} {w : World} (hn : B ≤ w.heap.size) (W : World) (l : Nat) (o o' : Obj) (hl : w.heap.size ≤ l) (h : W.heap[l]? = some o) (_ : o.isCells = false) (_ : o.isWalk = false) : Kz B W (W.putObj l o') :=
  ⟨by simp [World.putObj], fun k hk => World.putObj_heap_other (by omega)⟩
abbrev Upto (c : Nat) := { j : Nat // j < c }
def upC (c k : Nat) : List (Upto c) := (List.range k).filterMap fun j => if h : j < c then some ⟨j, h⟩ else none
theorem upC_zero (c : Nat) : upC c 0 = [] := rfl
theorem upC_succ (c k : Nat) (h : k < c) : upC c (k + 1) = upC c k ++ [⟨k, h⟩] := by
  unfold upC
  rw [List.range_succ, List.filterMap_append]
  simp [h]
theorem upC_len (c k : Nat) (h : k ≤ c) : (upC c k).length = k := by
  induction k with
  | zero => rfl
  | succ k ih => rw [upC_succ c k (by omega), List.length_append, ih (by omega)]; rfl
theorem upC_mem (c k j : Nat) (h : j < k) (hk : k ≤ c) : ⟨j, by omega⟩ ∈ upC c k := by
  unfold upC
  rw [List.mem_filterMap]
  exact ⟨j, List.mem_range.2 h, by simp; omega⟩
/-- The part at j from the top. -/
def fromTop (O : List (Pk × Value)) (j : Nat) : Pk × Value := O.reverse.getD j (⟨0, 0, []⟩, .slice none 0 0)
def partV (q : Pk × Value) : Value := .agg #[.int .i64 (q.1.k : Int), .int .i64 (q.1.s : Int), q.2]
def encP (c : Nat) (O : List (Pk × Value)) (x : Upto c) : Array Value := #[.int .i64 ((c - 1 - x.1 : Nat) : Int), partV (fromTop O x.1)]
abbrev bkF : Nat := 69
set_option maxRecDepth 100000 in
set_option maxHeartbeats 2000000 in
theorem back1_in (F : Fence) (n : Nat) (hF : F.fn bkF) (hro : F.round = none) (hn : 1 ≤ n) (l Bs B : Nat) (A : Option Addr) (c cap : Nat) (O : List (Pk × Value)) (hc2 : c ≤ 2000) (hB : Bs < B)
    (J Jx : List (Upto c) → World → Prop)
    (hY : ∀ pre x W, J pre W → pre.length < c → YieldAt F (n - 1) Try.prog l (encP c O x) W fun e W' =>
      (e = .returned (.bool true) ∧ J (pre ++ [x]) W' ∧ Kz B W W') ∨ (e = .returned (.bool false) ∧ Jx (pre ++ [x]) W'))
    (W : World) (hBs : W.cell? ⟨Bs, 0, none⟩ = some (.slice A c cap)) (hc : ∀ j, j < c → ∃ g, A = some ⟨g, 0, none⟩ ∧ g < B ∧ W.cell? ⟨g, (c - 1 - j) * 3, none⟩ = some (.int .i64 ((fromTop O j).1.k : Int)) ∧ W.cell? ⟨g, (c - 1 - j) * 3 + 1, none⟩ = some (.int .i64 ((fromTop O j).1.s : Int)) ∧ W.cell? ⟨g, (c - 1 - j) * 3 + 2, none⟩ = some (fromTop O j).2) (h0 : J [] W) :
    CallsIn F n Try.prog bkF #[.func (.yield l) #[] #[], .pointer (some ⟨Bs, 0, none⟩)] W fun e W' => (∃ v, e = .returned v) ∧
      ((∃ ys, ys = upC c c ∧ J ys W') ∨ (∃ pre, (∃ m, m ≤ c ∧ pre = upC c m) ∧ Jx pre W')) := by
  refine callsIn_of_wp Try.func69 rfl hF ?_ hro
  simp only [Try.ntmps69, List.size_toArray, List.length_cons, List.length_nil, Nat.reduceAdd, Nat.reduceSub, Array.replicate_succ, Array.replicate_zero, List.push_toArray, List.append_toArray, List.nil_append, List.cons_append]
  have hcI : (c : Int) ≤ 2000 := by omega
  gi_wp2
  gi_loopw [3] (fun i wr => ∃ k : Nat, k ≤ c ∧ i = .int .i64 ((c : Int) - 1 - (k : Int)) ∧ J (upC c k) wr ∧ Kz B W wr)
    (fun i _ => (intOf i + 1).toNat)
  case atStart => exact ⟨0, Nat.zero_le _, by simp, h0, Kz.refl _ _⟩
  case round =>
    obtain ⟨k, hk, rfl, hJs, hnx⟩ := hrel
    have hbox := hnx.cell (x := ⟨Bs, 0, none⟩) hB hBs
    by_cases hlt : k < c
    · obtain ⟨d, hd⟩ : ∃ d, d = c - 1 - k := ⟨_, rfl⟩
      have hdI : (c : Int) - 1 - (k : Int) = (d : Int) := by omega
      rw [hdI]
      obtain ⟨g, hA, hg, hx0, hx1, hx2⟩ := hc k hlt
      subst hA
      obtain ⟨fn, tmps, assign, body, hy, hR⟩ := hY _ ⟨k, hlt⟩ wr hJs (by rw [upC_len c k hk]; exact hlt)
      unfold encP partV at hy
      dsimp only at hy
      rw [← hd] at hy hx0 hx1 hx2
      have k0 := hnx.cell (x := ⟨g, d * 3, none⟩) hg hx0
      have k1 := hnx.cell (x := ⟨g, d * 3 + 1, none⟩) hg hx1
      have k2 := hnx.cell (x := ⟨g, d * 3 + 2, none⟩) hg hx2
      have hdc : (d : Int) < (c : Int) := by omega
      have hd0 : (0 : Int) ≤ (d : Int) := by omega
      have HDI := Lib.hid (And.intro hd hdI)
      generalize fromTop O k = z at hy k0 k1 k2
      clear hd hdI hx0 hx1 hx2
      gi_wp2
      refine hR.mono ?_
      rintro e W3 (⟨rfl, hJ3, hk3⟩ | ⟨rfl, hJx3⟩)
      · gi_wp2
        go_roundw
        case rel => exact ⟨k + 1, by omega, by have := HDI.out.2; congr 1; omega, by rw [upC_succ c k hlt]; exact hJ3, hnx.trans hk3⟩
        case measure => have := HDI.out.2; simp [intOf]
      · gi_wp2
        refine bodyPost_ret (results_none rfl _ _ _) rfl ?_
        exact ⟨⟨_, rfl⟩, .inr ⟨_, ⟨k + 1, hlt, (upC_succ c k hlt).symm⟩, hJx3⟩⟩
    · obtain rfl : k = c := by omega
      have hdI : (k : Int) - 1 - (k : Int) = -1 := by omega
      rw [hdI]
      gi_wp2
      go_end0
      exact ⟨⟨_, rfl⟩, .inl ⟨_, rfl, hJs⟩⟩
theorem back_in (F : Fence) (n : Nat) (hF : F.fn 66) (hro : F.round = none) (A : Option Addr) (len cap : Nat) (w : World) :
    CallsIn F n Try.prog 66 #[.slice A len cap] w fun e w' => e = .returned (.func (.func bkF) #[] #[.pointer (some ⟨w.heap.size, 0, none⟩)]) ∧ w' = w.alloc (.cells #[.slice A len cap] 59) := by
  refine callsIn_of_wp Try.func66 rfl hF ?_ hro
  simp only [Try.ntmps66, List.size_toArray, List.length_cons, List.length_nil, Nat.reduceAdd, Nat.reduceSub, Array.replicate_succ, Array.replicate_zero, List.push_toArray, List.append_toArray, List.nil_append, List.cons_append]
  gi_wp2
  go_ret
  exact ⟨rfl, rfl⟩
theorem back_stops (F : Fence) (n : Nat) (hF : F.fn bkF) (hro : F.round = none) (hn : 1 ≤ n) (Bs : Nat) (A : Option Addr) (c cap : Nat) (O : List (Pk × Value)) (hc2 : c ≤ 2000) (w : World) (hB : Bs < w.heap.size)
    (hBs : w.cell? ⟨Bs, 0, none⟩ = some (.slice A c cap)) (hc : ∀ j, j < c → ∃ g, A = some ⟨g, 0, none⟩ ∧ g < w.heap.size ∧ w.cell? ⟨g, (c - 1 - j) * 3, none⟩ = some (.int .i64 ((fromTop O j).1.k : Int)) ∧ w.cell? ⟨g, (c - 1 - j) * 3 + 1, none⟩ = some (.int .i64 ((fromTop O j).1.s : Int)) ∧ w.cell? ⟨g, (c - 1 - j) * 3 + 2, none⟩ = some (fromTop O j).2) :
    SeqStopsK F n Try.prog bkF #[.pointer (some ⟨Bs, 0, none⟩)] (encP c O) (Kz w.heap.size) (fun ys => ys = upC c c) (fun pre => ∃ m, m ≤ c ∧ pre = upC c m) c w := fun l J Jx W hW _ _ hY h0 =>
  back1_in F n hF hro hn l Bs w.heap.size A c cap O hc2 hB J Jx hY W ((hW.cell (p := ⟨Bs, 0, none⟩) hB).trans hBs)
    (fun j hj => by
      obtain ⟨g, h1, h2, h3, h4, h5⟩ := hc j hj
      exact ⟨g, h1, h2, (hW.cell (p := ⟨g, _, none⟩) h2).trans h3, (hW.cell (p := ⟨g, _, none⟩) h2).trans h4, (hW.cell (p := ⟨g, _, none⟩) h2).trans h5⟩) h0
theorem fromTop_at (A : List (Pk × Value)) (q : Pk × Value) (B : List (Pk × Value)) : fromTop (A ++ q :: B) B.length = q := by
  have e : (A ++ q :: B).reverse = B.reverse ++ q :: A.reverse := by simp
  unfold fromTop
  rw [e, List.getD_eq_getElem?_getD, List.getElem?_append_right (by simp)]
  simp
theorem at_top {O : List (Pk × Value)} {j : Nat} (h : j < O.length) : ∃ A q B, O = A ++ q :: B ∧ B.length = j ∧ A.length = O.length - 1 - j ∧ fromTop O j = q := by
  have hi : O.length - 1 - j < O.length := by omega
  have e : O = O.take (O.length - 1 - j) ++ O[O.length - 1 - j] :: O.drop (O.length - 1 - j + 1) := by rw [← List.drop_eq_getElem_cons hi, List.take_append_drop]
  have hB : (O.drop (O.length - 1 - j + 1)).length = j := by rw [List.length_drop]; omega
  refine ⟨_, _, _, e, hB, by rw [List.length_take]; omega, ?_⟩
  have := fromTop_at (O.take (O.length - 1 - j)) O[O.length - 1 - j] (O.drop (O.length - 1 - j + 1))
  rw [← e, hB] at this
  exact this
theorem topmost_no {k : Nat} {P : List Pk} (h : ∀ q ∈ P, q.k ≠ k) : topmost k P = -1 := by
  induction P using snocRec with
  | nil => rfl
  | snoc C q ih => rw [topmost_snoc, if_neg (h q (by simp)), ih fun x hx => h x (by simp [hx])]
theorem topmost_is {k : Nat} {C : List Pk} {q : Pk} {D : List Pk} (hq : q.k = k) (hD : ∀ d ∈ D, d.k ≠ k) : topmost k (C ++ q :: D) = C.length := by
  induction D using snocRec with
  | nil => rw [topmost_snoc, if_pos hq]
  | snoc D d ih =>
    rw [show C ++ q :: (D ++ [d]) = (C ++ q :: D) ++ [d] by simp, topmost_snoc, if_neg (hD d (by simp)), ih fun x hx => hD x (by simp [hx])]
theorem topmost_found {O : List (Pk × Value)} {k x : Nat} (hx : x < O.length) (h1 : (fromTop O x).1.k = k) (h2 : ∀ j, j < x → (fromTop O j).1.k ≠ k) : topmost k (O.map Prod.fst) = ((O.length - 1 - x : Nat) : Int) := by
  obtain ⟨A, q, B, rfl, hB, hA, e⟩ := at_top hx
  rw [e] at h1
  rw [List.map_append, List.map_cons, topmost_is h1, List.length_map, hA]
  intro d hd
  obtain ⟨b, hb, rfl⟩ := List.mem_map.1 hd
  obtain ⟨B1, B2, rfl⟩ := List.append_of_mem hb
  have := fromTop_at (A ++ q :: B1) b B2
  rw [show A ++ q :: B1 ++ b :: B2 = A ++ q :: (B1 ++ b :: B2) by simp] at this
  have h3 := h2 B2.length (by rw [← hB]; simp; omega)
  rwa [this] at h3
theorem topmost_none {O : List (Pk × Value)} {k : Nat} (h2 : ∀ j, j < O.length → (fromTop O j).1.k ≠ k) : topmost k (O.map Prod.fst) = -1 := by
  refine topmost_no fun d hd => ?_
  obtain ⟨b, hb, rfl⟩ := List.mem_map.1 hd
  obtain ⟨B1, B2, rfl⟩ := List.append_of_mem hb
  have h3 := h2 B2.length (by simp; omega)
  rwa [fromTop_at] at h3
theorem grown_mod {W W' : World} {row : Option Nat} {B : Nat} (h : W.grownBy W' row) (hr : ∀ r, row = some r → B ≤ r) : ∃ S, Mod S W W' ∧ ∀ x ∈ S, B ≤ x :=
  ⟨row.toList, Mod.of_grown h (by simp), fun x hx => hr x (by simpa using hx)⟩
theorem kf_far {B : Nat} {W W' : World} (m : Mod [] W W') : KeepsFrom B W W' := ⟨m.size, fun k o hk ho _ => (m.block k (Array.getElem?_eq_some_iff.1 ho).1 (by simp)).trans ho⟩
theorem kz_far {B : Nat} {W W' : World} (m : Mod [] W W') (hB : B ≤ W.heap.size) : Kz B W W' := ⟨m.size, fun k hk => m.block k (by omega) (by simp)⟩
theorem put_mod (W : World) (D : Nat) (o : Obj) : Mod [D] W (W.putObj D o) := ⟨rfl, rfl, rfl, by simp [World.putObj], fun k _ hk => World.putObj_heap_other (by simpa using hk)⟩
set_option maxRecDepth 100000 in
set_option maxHeartbeats 8000000 in
theorem topmost_calls {w : World} {p : Nat} {vc vo : Value} {O : List (Pk × Value)} {L : List Xi} (h : Bv TB TP w p vc vo O L) (hd : O.length ≤ 1000) (k : Nat) (kz : Int) (hk : kz = k) :
    Calls Try.prog 55 #[Pt p, .int .i64 kz] w fun e w' => e = .returned (.int .i64 (topmost k (O.map Prod.fst))) ∧ Mod [] w w' := by
  subst hk
  obtain ⟨A, cap, rfl, _⟩ := h.open_slice
  obtain ⟨c, hc⟩ : ∃ c, c = O.length := ⟨_, rfl⟩
  have m1 := ((Mod.refl [] w).alloc (.cells #[.int .i64 (k : Int)] 64)).alloc (.cells #[.int .i64 0] 3)
  have k1 := m1.cell (x := ⟨p, 1, none⟩) (by simp) h.c1
  rw [← hc] at k1
  have HV := Lib.hid h
  have HN := Lib.hid (And.intro hc hd)
  clear h hc hd
  refine (callsIn_wide (n := 3)).1 ?_
  refine callsIn_of_wp_marks Try.func55 rfl trivial ?_ rfl
  simp only [Try.ntmps55, List.size_toArray, List.length_cons, List.length_nil, Nat.reduceAdd, Nat.reduceSub, Array.replicate_succ, Array.replicate_zero, List.push_toArray, List.append_toArray, List.nil_append, List.cons_append]
  gi_wp2
  refine ⟨trivial, (back_in Fence.wide 2 trivial rfl A c cap _).mono ?_⟩
  rintro e w' ⟨rfl, rfl⟩
  gi_wp2
  clear k1
  have M2 : Mod [] w (((w.alloc (.cells #[.int .i64 (k : Int)] 64)).alloc (.cells #[.int .i64 0] 3)).alloc (.cells #[.slice A c cap] 59)) := m1.alloc _
  have hsz : (((w.alloc (.cells #[.int .i64 (k : Int)] 64)).alloc (.cells #[.int .i64 0] 3)).alloc (.cells #[.slice A c cap] 59)).heap.size = w.heap.size + 3 := by rw [size_allocI, size_allocI, size_allocI]
  have hsz1 : (w.alloc (.cells #[.int .i64 (k : Int)] 64)).heap.size = w.heap.size + 1 := by rw [size_allocI]
  have hsz2 : ((w.alloc (.cells #[.int .i64 (k : Int)] 64)).alloc (.cells #[.int .i64 0] 3)).heap.size = w.heap.size + 2 := by rw [size_allocI, size_allocI]
  have bk : (((w.alloc (.cells #[.int .i64 (k : Int)] 64)).alloc (.cells #[.int .i64 0] 3)).alloc (.cells #[.slice A c cap] 59)).cell? ⟨w.heap.size, 0, none⟩ = some (.int .i64 (k : Int)) := (((Mod.refl [] _).alloc _).alloc _).cell (by simp) (by rw [World.cell?_alloc_new]; rfl)
  have br : (((w.alloc (.cells #[.int .i64 (k : Int)] 64)).alloc (.cells #[.int .i64 0] 3)).alloc (.cells #[.slice A c cap] 59)).heap[w.heap.size + 1]? = some (.cells #[.int .i64 0] 3 (0, 0)) := by
    have q1 := (MapKept.heap_alloc (w.alloc (.cells #[.int .i64 (k : Int)] 64)) (.cells #[.int .i64 0] 3)).1
    rw [hsz1] at q1
    exact (((Mod.refl [] _).alloc _).block (w.heap.size + 1) (by rw [hsz2]; omega) (by simp)).trans q1
  have bs : (((w.alloc (.cells #[.int .i64 (k : Int)] 64)).alloc (.cells #[.int .i64 0] 3)).alloc (.cells #[.slice A c cap] 59)).cell? ⟨w.heap.size + 2, 0, none⟩ = some (.slice A c cap) := by
    have := World.cell?_alloc_new ((w.alloc (.cells #[.int .i64 (k : Int)] 64)).alloc (.cells #[.int .i64 0] 3)) #[.slice A c cap] 59
    rw [hsz2] at this
    rw [this]
    rfl
  generalize ((w.alloc (.cells #[.int .i64 (k : Int)] 64)).alloc (.cells #[.int .i64 0] 3)).alloc (.cells #[.slice A c cap] 59) = W2 at hsz M2 bk br bs ⊢
  rw [show w.heap.size + 2 = w.heap.size + 1 + 1 from rfl] at bs
  have hV2 := HV.out.far M2
  have hsl : ∀ j, j < c → ∃ g, A = some ⟨g, 0, none⟩ ∧ g < W2.heap.size ∧ W2.cell? ⟨g, (c - 1 - j) * 3, none⟩ = some (.int .i64 ((fromTop O j).1.k : Int)) ∧ W2.cell? ⟨g, (c - 1 - j) * 3 + 1, none⟩ = some (.int .i64 ((fromTop O j).1.s : Int)) ∧ W2.cell? ⟨g, (c - 1 - j) * 3 + 2, none⟩ = some (fromTop O j).2 := fun j hj => by
    obtain ⟨A1, q, B1, e, hB1, hA1, hq⟩ := at_top (O := O) (j := j) (by rw [← HN.out.1]; exact hj)
    have hV3 := hV2
    rw [e] at hV3
    obtain ⟨g, cap', e2, _, c0, c1, c2, _⟩ := hV3.part
    simp only [Value.slice.injEq] at e2
    rw [hA1, ← HN.out.1] at c0 c1 c2
    rw [hq]
    exact ⟨g, e2.1, World.block_lt_of_cell? _ _ c0, c0, c1, c2⟩
  have hsv : ∀ x, ∃ A n c, (fromTop O x).2 = .slice A n c := fun x => by
    by_cases hx : x < O.length
    · obtain ⟨A1, q, B1, e, _, _, hq⟩ := at_top hx
      rw [hq]
      obtain ⟨A2, c2, e2⟩ := (hV2.gaps q (by rw [e]; simp)).slice
      exact ⟨A2, _, c2, e2⟩
    · refine ⟨none, 0, 0, ?_⟩
      unfold fromTop
      rw [List.getD_eq_getElem?_getD, List.getElem?_eq_none (by simp; omega)]
      rfl
  have hfr : ∀ W, Mod [] W2 W → W.cell? ⟨w.heap.size + 1, 0, none⟩ = some (.int .i64 0) ∧ W.frozen? ⟨w.heap.size + 1, 0, none⟩ = false ∧ W.heap[w.heap.size + 1]? = some (.cells #[.int .i64 0] 3 (0, 0)) := fun W m => by
    have q := (m.block (w.heap.size + 1) (by omega) (by simp)).trans br
    refine ⟨?_, ?_, q⟩
    · simp only [World.cell?, q]; rfl
    · simp only [World.frozen?, q]; rfl
  refine wpIn_rangeFunc_ownH (w0 := W2) rfl (by omega) (gf := bkF) (lb := #[.pointer (some ⟨w.heap.size + 1 + 1, 0, none⟩)]) rfl trivial (enters_of Try.func69 (by kernel_rfl) rfl)
    (back_stops Fence.wide 2 trivial rfl (by omega) (w.heap.size + 1 + 1) A c cap O (by have := HN.out; omega) W2 (by omega) bs hsl) Kz.trans (kz_put (Nat.le_refl _)) (Below.refl _ _) (fun _ => rfl)
    (fun pre W => Mod [] W2 W ∧ ∀ y ∈ pre, (fromTop O y.1).1.k ≠ k)
    (fun cd pre W => cd = .ret ∧ Mod [w.heap.size + 1] W2 W ∧ ∃ pre' x, pre = pre' ++ [x] ∧ (fromTop O x.1).1.k = k ∧ (∀ y ∈ pre', (fromTop O y.1).1.k ≠ k) ∧ W.heap[w.heap.size + 1]? = some (.cells #[.int .i64 ((c - 1 - x.1 : Nat) : Int)] 3 (0, 0))) ?hI ?hIx ⟨Mod.refl _ _, by simp⟩
    (fun x a' W => ∃ b6, a' = { tmps := #[Pt p, Value.int IntKind.i64 ↑k, undef, Value.pointer (some { block := w.heap.size, off := 0 }),
          Value.pointer (some { block := w.heap.size + 1, off := 0 }), .int .i64 ((c - 1 - x.1 : Nat) : Int), .pointer (some ⟨b6, 0, none⟩), Pt p,
          Value.pointer (some { block := p, off := 0 }), Value.pointer (some { block := p, off := 1 }),
          Value.slice A c cap,
          Value.func (Fn.func bkF) #[] #[Value.pointer (some { block := w.heap.size + 1 + 1, off := 0 })], .int .i64 ((c - 1 - x.1 : Nat) : Int), partV (fromTop O x.1),
          undef, undef, undef, undef, undef], defers := [] } ∧ W.heap[b6]? = some (.cells #[.int .i64 ((fromTop O x.1).1.k : Int), .int .i64 ((fromTop O x.1).1.s : Int), (fromTop O x.1).2] TP (0, 0))) ?hAx ?assign ?body ?done ?stop
  case hI =>
    intro s W W' row hs hg hr
    obtain ⟨S, mS, hS⟩ := grown_mod hg (B := W2.heap.size) fun r e => (hr r e).1
    exact ⟨hs.1.then mS fun y hy => Or.inr (hS y hy), hs.2⟩
  case hIx =>
    intro cd s W W' row hs hg hr
    obtain ⟨S, mS, hS⟩ := grown_mod hg (B := W2.heap.size) fun r e => (hr r e).1
    obtain ⟨h1, h2, pre', x, h3, h4, h5, h6⟩ := hs
    refine ⟨h1, h2.then mS fun y hy => Or.inr (hS y hy), pre', x, h3, h4, h5, (mS.block _ (Array.getElem?_eq_some_iff.1 h6).1 fun hx => by have := hS _ hx; omega).trans h6⟩
  case hAx =>
    intro x a' s W W' row hs hg hr
    obtain ⟨b6, h1, h2⟩ := hs
    refine ⟨b6, h1, (hg.block b6 (Array.getElem?_eq_some_iff.1 h2).1 fun e => ?_).trans h2⟩
    obtain ⟨_, o, ho, hc⟩ := hr b6 e.symm
    rw [h2] at ho
    injection ho with ho
    subst ho
    cases hc
  case assign =>
    intro l pre x W K hi hK
    have mA := (Mod.refl [] W).alloc (.cells #[.int .i64 ((fromTop O x.1).1.k : Int), .int .i64 ((fromTop O x.1).1.s : Int), (fromTop O x.1).2] TP)
    have hbx : (W.alloc (.cells #[.int .i64 ((fromTop O x.1).1.k : Int), .int .i64 ((fromTop O x.1).1.s : Int), (fromTop O x.1).2] TP)).heap[W.heap.size]? = some (.cells #[.int .i64 ((fromTop O x.1).1.k : Int), .int .i64 ((fromTop O x.1).1.s : Int), (fromTop O x.1).2] TP (0, 0)) := (MapKept.heap_alloc W _).1
    have hK' := hK _ _ (kf_far mA) (kz_far mA hi.1.size) ⟨hi.1.trans mA, hi.2⟩ ⟨_, rfl, hbx⟩
    have HK := Lib.hid hK'
    clear hK hK' hi mA hbx
    simp only [encP, partV] at HK ⊢
    obtain ⟨A7, n7, c7, e7⟩ := hsv x.1
    rw [e7] at HK ⊢
    clear e7
    gi_wp2
    exact HK.out
  case stop =>
    rintro D cd pre W hD ⟨m, hm, e0⟩ ⟨rfl, mW, pre', x, e, hkx, hno, hres⟩ hK
    have hmem : ∀ j, j < x.1 → (fromTop O j).1.k ≠ k := fun j hj => by
      have hl := congrArg List.length (e0.symm.trans e)
      rw [upC_len c m hm, List.length_append, List.length_singleton] at hl
      obtain ⟨m', rfl⟩ : ∃ m', m = m' + 1 := ⟨m - 1, by omega⟩
      rw [upC_succ c m' hm] at e0
      obtain ⟨h1, h2⟩ := List.append_inj' (e0.symm.trans e) rfl
      have h3 : (⟨m', hm⟩ : Upto c) = x := by simpa using h2
      subst h3
      have h4 := upC_mem c m' j hj (by omega)
      rw [h1] at h4
      exact hno _ h4
    have hres2 := topmost_found (O := O) (k := k) (x := x.1) (by have := x.2; have := HN.out.1; omega) hkx hmem
    have hDne : D ≠ w.heap.size + 1 := by omega
    have mP := put_mod W D (.deferred none)
    have hr2 := (mP.block (w.heap.size + 1) (Array.getElem?_eq_some_iff.1 hres).1 (by simp; omega)).trans hres
    have hc2 : (W.putObj D (.deferred none)).cell? ⟨w.heap.size + 1, 0, none⟩ = some (.int .i64 ((c - 1 - x.1 : Nat) : Int)) := by simp only [World.cell?, hr2]; rfl
    have HE := Lib.hid (And.intro mW (And.intro mP hres2))
    clear mW mP hres2 hmem hno hkx e e0 hres hr2
    gi_wp2
    refine ⟨by simp, .inl ⟨_, _, rfl, run_takeDeferred hK, ?_⟩⟩
    refine ⟨.int .i64 ((c - 1 - x.1 : Nat) : Int), by simp [results, Try.results55, go_sem, hc2], ?_, (M2.then HE.out.1 (fun y hy => Or.inr (by have := List.mem_singleton.1 hy; omega))).then HE.out.2.1 (fun y hy => Or.inr (by have := List.mem_singleton.1 hy; omega))⟩
    rw [HE.out.2.2, show c - 1 - x.1 = O.length - 1 - x.1 by have := HN.out.1; omega]
  case body =>
    rintro l pre x a' W hl hr ⟨hm, hno⟩ ⟨b6, rfl, hb6⟩ hlen
    obtain ⟨y0, y1, y2, _⟩ := three_at hb6
    obtain ⟨r0, r1, r2⟩ := hfr W hm
    have hbk := hm.cell (by simp) bk
    have HI := Lib.hid (And.intro hm (And.intro hno r2))
    obtain ⟨ix, hix⟩ : ∃ ix, ix = c - 1 - x.1 := ⟨_, rfl⟩
    rw [← hix]
    have HX := Lib.hid hix
    have hs0 := hm.size
    clear hm hno hb6 r2 hix hr
    by_cases hkk : (fromTop O x.1).1.k = k
    · have HKK := Lib.hid hkk
      have q1 : (((fromTop O x.1).1.k : Int) == (k : Int)) = true := by rw [hkk]; exact beq_self_eq_true _
      clear hkk
      gi_wp2
      have hset := set_mod W (w.heap.size + 1) 0 (.int .i64 (ix : Int))
      have hs1 := heap_setCell_same W (w.heap.size + 1) 0 _ _ (.int .i64 (ix : Int)) HI.out.2.2
      refine ⟨⟨hset.size, fun k' o hk' ho hoc => (hset.block k' (Array.getElem?_eq_some_iff.1 ho).1 (by simp; omega)).trans ho⟩, rfl, (HI.out.1.up (by simp)).trans hset, pre, x, rfl, HKK.out, HI.out.2.1, ?_⟩
      rw [← HX.out]
      exact hs1
    · have HKK := Lib.hid hkk
      have q1 : (((fromTop O x.1).1.k : Int) == (k : Int)) = false := by rw [beq_eq_false_iff_ne]; exact fun e => hkk (Int.ofNat.inj e)
      clear hkk
      gi_wp2
      refine ⟨KeepsFrom.refl _ _, Kz.refl _ _, HI.out.1, fun y hy => ?_⟩
      rcases List.mem_append.1 hy with hy | hy
      · exact HI.out.2.1 y hy
      · rw [List.mem_singleton.1 hy]; exact HKK.out
  case done =>
    rintro D ys W hD rfl ⟨hm, hno⟩ hK
    obtain ⟨r0, r1, r2⟩ := hfr W hm
    have hres2 := topmost_none (O := O) (k := k) fun j hj => hno ⟨j, by have := HN.out.1; omega⟩ (upC_mem c c j (by have := HN.out.1; omega) (Nat.le_refl _))
    have hset := set_mod W (w.heap.size + 1) 0 (.int .i64 (-1))
    have hs1 := heap_setCell_same W (w.heap.size + 1) 0 _ _ (.int .i64 (-1)) r2
    have hK2 := (hset.block D (Array.getElem?_eq_some_iff.1 hK).1 (by simp; omega)).trans hK
    have HE0 := Lib.hid (And.intro hm (And.intro hset (And.intro hs1 (And.intro hres2 hK2))))
    clear hm hset hs1 hres2 hK2 hno hK r2
    gi_wp2
    obtain ⟨hm, hset, hs1, hres2, hK2⟩ := HE0.out
    generalize W.setCell ⟨w.heap.size + 1, 0, none⟩ (.int .i64 (-1)) = X at *
    have mP := put_mod X D (.deferred none)
    have hr2 := (mP.block (w.heap.size + 1) (Array.getElem?_eq_some_iff.1 hs1).1 (by simp; omega)).trans hs1
    have hc2 : (X.putObj D (.deferred none)).cell? ⟨w.heap.size + 1, 0, none⟩ = some (.int .i64 (-1)) := by simp only [World.cell?, hr2]; rfl
    refine ⟨by simp, .inl ⟨_, _, rfl, run_takeDeferred hK2, ?_⟩⟩
    refine ⟨.int .i64 (-1), by simp [results, Try.results55, go_sem, hc2], ?_, ((M2.trans hm).then hset (fun y hy => Or.inr (by have := List.mem_singleton.1 hy; omega))).then mP (fun y hy => Or.inr (by have := List.mem_singleton.1 hy; omega))⟩
    rw [hres2]
end Go.Proofs.Ytnclfopdgilgaaa
