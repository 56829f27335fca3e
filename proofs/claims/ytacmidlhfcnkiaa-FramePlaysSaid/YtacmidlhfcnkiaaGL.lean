/- Layer 14 (package frame): Index. Condition: the block is frames (Fv). -/
import Derived.Test.YtacmidlhfcnkiaaGK
namespace Go.Proofs.Ytacmidlhfcnkiaa
open Go.RowKit Go.Shelf
attribute [local go_sem] Oper.semAt_some
set_option linter.unusedVariables false

/-- What lay below B lies as it lay, but for the block b. -/
structure Kq (B b : Nat) (W W' : World) : Prop where
  size : W.heap.size ≤ W'.heap.size
  block : ∀ k, k < B → k ≠ b → W'.heap[k]? = W.heap[k]?
theorem Kq.refl (B b : Nat) (W : World) : Kq B b W W := ⟨Nat.le_refl _, fun _ _ _ => rfl⟩
theorem Kq.trans {B b : Nat} {X Y Z : World} (h : Kq B b X Y) (k : Kq B b Y Z) : Kq B b X Z := ⟨Nat.le_trans h.size k.size, fun i hi hb => (k.block i hi hb).trans (h.block i hi hb)⟩
theorem Kq.cell {B b : Nat} {X Y : World} (h : Kq B b X Y) {x : Addr} {v : Value} (h1 : x.block < B) (h2 : x.block ≠ b) (hc : X.cell? x = some v) : Y.cell? x = some v := (World.cell?_of_block (h.block x.block h1 h2)).trans hc
theorem kq_put {B b : Nat} {w : World} (hn : B ≤ w.heap.size) (W : World) (l : Nat) (o o' : Obj) (hl : w.heap.size ≤ l) (h : W.heap[l]? = some o) (_ : o.isCells = false) (_ : o.isWalk = false) : Kq B b W (W.putObj l o') :=
  ⟨by simp [World.putObj], fun k hk _ => World.putObj_heap_other (by omega)⟩
theorem kf_mod {B b : Nat} {W W' : World} (m : Mod [b] W W') (hb : b < B) (hB : B ≤ W.heap.size) : KeepsFrom B W W' :=
  ⟨m.size, fun k o hk ho _ => (m.block k (Array.getElem?_eq_some_iff.1 ho).1 (by simp; omega)).trans ho⟩
theorem kq_mod {B b : Nat} {W W' : World} (m : Mod [b] W W') (hB : B ≤ W.heap.size) : Kq B b W W' :=
  ⟨m.size, fun k hk hne => m.block k (by omega) (by simpa using hne)⟩
set_option maxRecDepth 100000 in
set_option maxHeartbeats 2000000 in
theorem top1q_in (n : Nat) (hn : 1 ≤ n) (l Bs B b p g : Nat) (A : Option Addr) (c cap : Nat) (hc2 : c ≤ 128) (hB : Bs < B) (hp : p < B) (hBb : Bs ≠ b) (hpb : p ≠ b) (hA : 0 < c → A = some ⟨g, 0, none⟩)
    (J Jx : List (Upto c) → World → Prop)
    (hY : ∀ pre x W, J pre W → pre.length < c → YieldAt Fence.wide (n - 1) Try.prog l (encP c g x) W fun e W' =>
      (e = .returned (.bool true) ∧ J (pre ++ [x]) W' ∧ Kq B b W W') ∨ (e = .returned (.bool false) ∧ Jx (pre ++ [x]) W'))
    (W : World) (hBs : W.cell? ⟨Bs, 0, none⟩ = some (Pt p)) (hc0 : W.cell? ⟨p, 0, none⟩ = some (.slice A c cap)) (h0 : J [] W) :
    CallsIn Fence.wide n Try.prog ftF #[.func (.yield l) #[] #[], .pointer (some ⟨Bs, 0, none⟩)] W fun e W' => (∃ v, e = .returned v) ∧
      ((∃ ys, ys = upC c c ∧ J ys W') ∨ (∃ pre, (∃ m, m ≤ c ∧ pre = upC c m) ∧ Jx pre W')) := by
  refine callsIn_of_wp Try.func43 rfl trivial ?_ rfl
  simp only [Try.ntmps43, List.size_toArray, List.length_cons, List.length_nil, Nat.reduceAdd, Nat.reduceSub, Array.replicate_succ, Array.replicate_zero, List.push_toArray, List.append_toArray, List.nil_append, List.cons_append]
  have hcI : (c : Int) ≤ 128 := by omega
  have HD := Lib.hid (depth_cell hc0)
  gi_wp2
  refine ⟨trivial, (callsIn_wide.2 HD.out).mono ?_⟩
  rintro e w' ⟨rfl, rfl⟩
  gi_wp2
  gi_loopw [3] (fun i wr => ∃ k : Nat, k ≤ c ∧ i = .int .i64 ((c : Int) - 1 - (k : Int)) ∧ J (upC c k) wr ∧ Kq B b W wr)
    (fun i _ => (intOf i + 1).toNat)
  case atStart => exact ⟨0, Nat.zero_le _, by simp, h0, Kq.refl _ _ _⟩
  case round =>
    obtain ⟨k, hk, rfl, hJs, hnx⟩ := hrel
    have hbox := hnx.cell (x := ⟨Bs, 0, none⟩) hB hBb hBs
    have hlist := hnx.cell (x := ⟨p, 0, none⟩) hp hpb hc0
    by_cases hlt : k < c
    · obtain ⟨d, hd⟩ : ∃ d, d = c - 1 - k := ⟨_, rfl⟩
      have hdI : (c : Int) - 1 - (k : Int) = (d : Int) := by omega
      rw [hdI]
      have hA' := hA (by omega)
      rw [hA'] at hlist
      obtain ⟨fn, tmps, assign, body, hy, hR⟩ := hY _ ⟨k, hlt⟩ wr hJs (by rw [upC_len c k hk]; exact hlt)
      unfold encP at hy
      dsimp only at hy
      rw [← hd] at hy
      have hdc : (d : Int) < (c : Int) := by omega
      have hd0 : (0 : Int) ≤ (d : Int) := by omega
      have HDI := Lib.hid (And.intro hd hdI)
      clear hd hdI hA' hc0 hBs HD
      gi_wp2
      refine hR.mono ?_
      rintro e W3 (⟨rfl, hJ3, hk3⟩ | ⟨rfl, hJx3⟩)
      · gi_wp2
        go_roundw
        case rel => exact ⟨k + 1, by omega, by have := HDI.out.2; congr 1; omega, by rw [upC_succ c k hlt]; exact hJ3, hnx.trans hk3⟩
        case measure => have := HDI.out.2; simp [intOf]
      · gi_wp2
        refine bodyPost_ret (results_none rfl _ _ _) rfl ?_
        exact ⟨⟨_, rfl⟩, .inr ⟨_, ⟨k + 1, hlt, (upC_succ c k hlt).symm⟩, hJx3⟩⟩
    · obtain rfl : k = c := by omega
      have hdI : (k : Int) - 1 - (k : Int) = -1 := by omega
      rw [hdI]
      gi_wp2
      go_end0
      exact ⟨⟨_, rfl⟩, .inl ⟨_, rfl, hJs⟩⟩
theorem topq_stops (n : Nat) (hn : 1 ≤ n) (Bs b p g : Nat) (A : Option Addr) (c cap : Nat) (hc2 : c ≤ 128) (w : World) (hB : Bs < w.heap.size) (hp : p < w.heap.size) (hBb : Bs ≠ b) (hpb : p ≠ b) (hA : 0 < c → A = some ⟨g, 0, none⟩)
    (hBs : w.cell? ⟨Bs, 0, none⟩ = some (Pt p)) (hc0 : w.cell? ⟨p, 0, none⟩ = some (.slice A c cap)) :
    SeqStopsK Fence.wide n Try.prog ftF #[.pointer (some ⟨Bs, 0, none⟩)] (encP c g) (Kq w.heap.size b) (fun ys => ys = upC c c) (fun pre => ∃ m, m ≤ c ∧ pre = upC c m) c w := fun l J Jx W hW _ _ hY h0 =>
  top1q_in n hn l Bs w.heap.size b p g A c cap hc2 hB hp hBb hpb hA J Jx hY W ((hW.cell (p := ⟨Bs, 0, none⟩) hB).trans hBs) ((hW.cell (p := ⟨p, 0, none⟩) hp).trans hc0) h0
/-- The frame i of O, and its X. -/
def xAt (O : List (Fm × Value)) (i : Nat) : Int := ((O[i]?).map fun q => q.1.x).getD 0
theorem xAt_is {O : List (Fm × Value)} {i : Nat} (hi : i < O.length) : xAt O i = O[i].1.x := by simp [xAt, hi]
theorem split_at {O : List (Fm × Value)} {i : Nat} (hi : i < O.length) : O.map Prod.fst = (O.take i).map Prod.fst ++ O[i].1 :: (O.drop (i + 1)).map Prod.fst := by
  have e0 : O = O.take i ++ O[i] :: O.drop (i + 1) := by rw [← List.drop_eq_getElem_cons hi, List.take_append_drop]
  exact (congrArg (List.map Prod.fst) e0).trans (by rw [List.map_append, List.map_cons])
theorem index_found {O : List (Fm × Value)} {m : Nat} (hm : m < O.length) (h : ∀ j, j ≤ m → kindAt O (O.length - 1 - j) = 3) : indexL (m : Int) (O.map Prod.fst) = some (xAt O (O.length - 1 - m)) := by
  have hi : O.length - 1 - m < O.length := by omega
  unfold indexL
  rw [split_at hi, loopAt_is (by simp; omega), xAt_is hi]
  · rfl
  · intro b hb
    rcases List.mem_cons.1 hb with rfl | hb
    · rw [← kindAt_is hi]; exact h m (Nat.le_refl _)
    · obtain ⟨q, hq, rfl⟩ := List.mem_map.1 hb
      obtain ⟨j, hj, rfl⟩ := List.getElem_of_mem hq
      have hj' : O.length - 1 - m + 1 + j < O.length := by simp at hj; omega
      have h2 := h (m - 1 - j) (by omega)
      rw [show O.length - 1 - (m - 1 - j) = O.length - 1 - m + 1 + j by omega, kindAt_is hj'] at h2
      rw [List.getElem_drop]
      exact h2
theorem index_not {O : List (Fm × Value)} {n : Int} {m : Nat} (hm : m < O.length) (h : kindAt O (O.length - 1 - m) ≠ 3) (hn : ¬ (0 ≤ n ∧ n < (m : Int))) : indexL n (O.map Prod.fst) = none := by
  have hi : O.length - 1 - m < O.length := by omega
  unfold indexL
  by_cases h0 : 0 ≤ n
  · rw [split_at hi, loopAt_not (by simp; omega) (by rw [← kindAt_is hi]; exact h)]
    rfl
  · rw [loopAt_no fun hh => h0 hh.1]
    rfl
theorem index_no {O : List (Fm × Value)} {n : Int} (hn : ¬ (0 ≤ n ∧ n < (O.length : Int))) : indexL n (O.map Prod.fst) = none := by
  unfold indexL
  rw [loopAt_no (by simpa using hn)]
  rfl
theorem five_alloc (w : World) (o0 o1 o2 o3 o4 : Obj) : (((((w.alloc o0).alloc o1).alloc o2).alloc o3).alloc o4).heap.size = w.heap.size + 5 ∧ (((((w.alloc o0).alloc o1).alloc o2).alloc o3).alloc o4).heap[w.heap.size]? = some o0 ∧ (((((w.alloc o0).alloc o1).alloc o2).alloc o3).alloc o4).heap[w.heap.size + 1]? = some o1 ∧ (((((w.alloc o0).alloc o1).alloc o2).alloc o3).alloc o4).heap[w.heap.size + 1 + 1]? = some o2 ∧ (((((w.alloc o0).alloc o1).alloc o2).alloc o3).alloc o4).heap[w.heap.size + 1 + 1 + 1]? = some o3 ∧ (((((w.alloc o0).alloc o1).alloc o2).alloc o3).alloc o4).heap[w.heap.size + 1 + 1 + 1 + 1]? = some o4 := by
  obtain ⟨z, a0, a1, a2⟩ := three_alloc w o0 o1 o2
  generalize ((w.alloc o0).alloc o1).alloc o2 = Y at z a0 a1 a2 ⊢
  have z1 := size_allocI Y o3
  have z2 := size_allocI (Y.alloc o3) o4
  have b0 := (MapKept.heap_alloc Y o3).1
  have b1 := (MapKept.heap_alloc (Y.alloc o3) o4).1
  rw [z1] at b1
  rw [z] at b0 b1
  have m := (al_mod Y o3).trans (al_mod (Y.alloc o3) o4)
  refine ⟨by omega, (m.block _ (by omega) (by simp)).trans a0, (m.block _ (by omega) (by simp)).trans a1, (m.block _ (by omega) (by simp)).trans a2, ((al_mod (Y.alloc o3) o4).block _ (by omega) (by simp)).trans b0, b1⟩
/-- Two results stored. -/
theorem two_sets {W : World} {b1 b2 : Nat} {t1 t2 : TypeId} {u1 u2 : Value} (h1 : W.heap[b1]? = some (.cells #[u1] t1 (0, 0))) (h2 : W.heap[b2]? = some (.cells #[u2] t2 (0, 0))) (hne : b1 ≠ b2) (v1 v2 : Value) :
    ((W.setCell ⟨b1, 0, none⟩ v1).setCell ⟨b2, 0, none⟩ v2).heap[b1]? = some (.cells #[v1] t1 (0, 0)) ∧ ((W.setCell ⟨b1, 0, none⟩ v1).setCell ⟨b2, 0, none⟩ v2).heap[b2]? = some (.cells #[v2] t2 (0, 0)) ∧ Mod [b1, b2] W ((W.setCell ⟨b1, 0, none⟩ v1).setCell ⟨b2, 0, none⟩ v2) := by
  have s1 := heap_setCell_same W b1 0 _ _ v1 h1
  have m1 := set_mod W b1 0 v1
  have s2 := heap_setCell_same (W.setCell ⟨b1, 0, none⟩ v1) b2 0 _ _ v2 ((m1.block _ (Array.getElem?_eq_some_iff.1 h2).1 (by simp; omega)).trans h2)
  have m2 := set_mod (W.setCell ⟨b1, 0, none⟩ v1) b2 0 v2
  exact ⟨(m2.block _ (by simp [World.setCell]; exact (Array.getElem?_eq_some_iff.1 h1).1) (by simp; omega)).trans s1, s2, (m1.up (by simp)).trans (m2.up (by simp))⟩
set_option maxRecDepth 100000 in
set_option maxHeartbeats 8000000 in
theorem index_calls {w : World} {p : Nat} {v : Value} {O : List (Fm × Value)} (h : Fv TP w p v O) (t : Int) :
    Calls Try.prog 22 #[Pt p, .int .i64 t] w fun e w' => e = .returned (.tuple #[.int .i64 ((indexL t (O.map Prod.fst)).getD 0), .int .i64 (orE (-26) (indexL t (O.map Prod.fst)))]) ∧ Mod [] w w' := by
  have hfew := h.few
  obtain ⟨A, cap, rfl, _⟩ := h.slice
  obtain ⟨c, hc⟩ : ∃ c, c = O.length := ⟨_, rfl⟩
  rw [← hc] at h hfew
  obtain ⟨g, hg⟩ : ∃ g, 0 < c → A = some ⟨g, 0, none⟩ := by
    rcases h.row.2 with ⟨e, h0⟩ | ⟨g, cp, cur, e, _⟩
    · exact ⟨0, fun hp => by omega⟩
    · injection e with e1; exact ⟨g, fun _ => e1⟩
  have hgl : 0 < c → g < w.heap.size := fun hp => h.lv g (by rw [hg hp]; rfl)
  have hkind : ∀ i, i < c → w.cell? ⟨g, i * 6, none⟩ = some (.int .i64 (kindAt O i)) ∧ w.cell? ⟨g, i * 6 + 3, none⟩ = some (.int .i64 (xAt O i)) := fun i hi => by
    have hio : i < O.length := by omega
    have hO : O = O.take i ++ O[i] :: O.drop (i + 1) := by rw [← List.drop_eq_getElem_cons hio, List.take_append_drop]
    have h' := h
    rw [hO] at h'
    obtain ⟨g', cap', e, _, hcc, _⟩ := h'.at_
    have hg1 := hg (by omega)
    subst hg1
    injection e with e1
    injection e1 with e1
    injection e1 with e1
    subst e1
    have h0 := hcc 0 (by omega)
    have h3 := hcc 3 (by omega)
    rw [List.length_take, Nat.min_eq_left (by omega)] at h0 h3
    rw [kindAt_is hio, xAt_is hio]
    exact ⟨h0, h3⟩
  have hpl := h.lp
  have hc0 := h.c0
  obtain ⟨hsz, b0, b1, b2, b3, b4⟩ := five_alloc w (.cells #[.int .i64 t] 3) (.cells #[.int .i64 0] 31) (.cells #[.int .i64 0] 44) (.cells #[.int .i64 0] 3) (.cells #[Pt p] 24)
  have M2 : Mod [] w (((((w.alloc (.cells #[.int .i64 t] 3)).alloc (.cells #[.int .i64 0] 31)).alloc (.cells #[.int .i64 0] 44)).alloc (.cells #[.int .i64 0] 3)).alloc (.cells #[Pt p] 24)) := ((((al_mod w _).trans (al_mod _ _)).trans (al_mod _ _)).trans (al_mod _ _)).trans (al_mod _ _)
  have HN := Lib.hid hc
  clear h hc
  refine (callsIn_wide (n := 3)).1 ?_
  refine callsIn_of_wp_marks Try.func22 rfl trivial ?_ rfl
  simp only [Try.ntmps22, List.size_toArray, List.length_cons, List.length_nil, Nat.reduceAdd, Nat.reduceSub, Array.replicate_succ, Array.replicate_zero, List.push_toArray, List.append_toArray, List.nil_append, List.cons_append]
  gi_wp2
  refine ⟨trivial, (fromTop_in 2 p _).mono ?_⟩
  rintro e w' ⟨rfl, rfl⟩
  gi_wp2
  generalize ((((w.alloc (.cells #[.int .i64 t] 3)).alloc (.cells #[.int .i64 0] 31)).alloc (.cells #[.int .i64 0] 44)).alloc (.cells #[.int .i64 0] 3)).alloc (.cells #[Pt p] 24) = W2 at hsz M2 b0 b1 b2 b3 b4 ⊢
  have hkind2 : ∀ i, i < c → W2.cell? ⟨g, i * 6, none⟩ = some (.int .i64 (kindAt O i)) ∧ W2.cell? ⟨g, i * 6 + 3, none⟩ = some (.int .i64 (xAt O i)) := fun i hi => ⟨M2.cell (by simp) (hkind i hi).1, M2.cell (by simp) (hkind i hi).2⟩
  have hc2 := M2.cell (x := ⟨p, 0, none⟩) (by simp) hc0
  clear hkind hc0
  have hfr : ∀ W, Mod [w.heap.size + 1 + 1 + 1] W2 W → W.heap[w.heap.size]? = some (.cells #[.int .i64 t] 3 (0, 0)) ∧ W.heap[w.heap.size + 1]? = some (.cells #[.int .i64 0] 31 (0, 0)) ∧ W.heap[w.heap.size + 1 + 1]? = some (.cells #[.int .i64 0] 44 (0, 0)) := fun W m =>
    ⟨(m.block _ (by omega) (by simp; omega)).trans b0, (m.block _ (by omega) (by simp)).trans b1, (m.block _ (by omega) (by simp)).trans b2⟩
  refine wpIn_rangeFunc_ownG (w0 := W2) rfl (by omega) (gf := ftF) (lb := #[.pointer (some ⟨w.heap.size + 1 + 1 + 1 + 1, 0, none⟩)]) rfl trivial (enters_of Try.func43 (by kernel_rfl) rfl)
    (topq_stops 2 (by omega) (w.heap.size + 1 + 1 + 1 + 1) (w.heap.size + 1 + 1 + 1) p g A c cap (by omega) W2 (by omega) (by omega) (by omega) (by omega) hg (cell_eq b4 0) hc2) Kq.trans (kq_put (Nat.le_refl _)) (Below.refl _ _) (fun _ => rfl)
    (fun pre W => Mod [w.heap.size + 1 + 1 + 1] W2 W ∧ W.heap[w.heap.size + 1 + 1 + 1]? = some (.cells #[.int .i64 (pre.length : Int)] 3 (0, 0)) ∧ (∀ y ∈ pre, kindAt O (c - 1 - y.1) = 3) ∧ ¬ (0 ≤ t ∧ t < (pre.length : Int)))
    (fun cd pre W => ∃ pre' x, pre = pre' ++ [x] ∧ (∀ y ∈ pre', kindAt O (c - 1 - y.1) = 3) ∧ ((cd = .exit 0 ∧ Mod [w.heap.size + 1 + 1 + 1] W2 W ∧ kindAt O (c - 1 - x.1) ≠ 3 ∧ ¬ (0 ≤ t ∧ t < (pre'.length : Int))) ∨
      (cd = .ret ∧ Mod [w.heap.size + 1, w.heap.size + 1 + 1, w.heap.size + 1 + 1 + 1] W2 W ∧ kindAt O (c - 1 - x.1) = 3 ∧ t = (pre'.length : Int) ∧ W.heap[w.heap.size + 1]? = some (.cells #[.int .i64 (xAt O (c - 1 - x.1))] 31 (0, 0)) ∧ W.heap[w.heap.size + 1 + 1]? = some (.cells #[.int .i64 0] 44 (0, 0))))) ?hI ?hIx ⟨Mod.refl _ _, b3, by simp, by simp⟩
    (fun x => { tmps := #[Pt p, Value.int .i64 t, undef, Value.pointer (some { block := w.heap.size, off := 0 }),
          Value.pointer (some { block := w.heap.size + 1, off := 0 }), Value.pointer (some { block := w.heap.size + 1 + 1, off := 0 }), Value.pointer (some { block := w.heap.size + 1 + 1 + 1, off := 0 }), undef, .pointer (some ⟨g, (c - 1 - x.1) * 6, none⟩), Pt p, .bool false, Pt p,
          Value.func (Fn.func ftF) #[] #[Value.pointer (some { block := w.heap.size + 1 + 1 + 1 + 1, off := 0 })], .int .i64 ((c - 1 - x.1 : Nat) : Int), .pointer (some ⟨g, (c - 1 - x.1) * 6, none⟩),
          undef, undef, undef, undef, undef, undef, undef, undef, undef, undef, undef, undef, undef, undef], defers := [] }) ?assign ?body ?done ?stop
  case hI =>
    intro s W W' row hs hg hr
    obtain ⟨S, mS, hS⟩ := grown_mod hg (B := W2.heap.size) fun r e => (hr r e).1
    exact ⟨hs.1.then mS fun y hy => Or.inr (hS y hy), (mS.block _ (Array.getElem?_eq_some_iff.1 hs.2.1).1 fun hx => by have := hS _ hx; omega).trans hs.2.1, hs.2.2⟩
  case hIx =>
    intro cd s W W' row hs hg hr
    obtain ⟨S, mS, hS⟩ := grown_mod hg (B := W2.heap.size) fun r e => (hr r e).1
    obtain ⟨pre', x, h1, h2, h3⟩ := hs
    refine ⟨pre', x, h1, h2, h3.imp (fun ⟨k1, k2, k3⟩ => ⟨k1, k2.then mS fun y hy => Or.inr (hS y hy), k3⟩) fun ⟨k1, k2, k3, k4, k5, k6⟩ => ⟨k1, k2.then mS fun y hy => Or.inr (hS y hy), k3, k4, ?_, ?_⟩⟩
    · exact (mS.block _ (Array.getElem?_eq_some_iff.1 k5).1 fun hx => by have := hS _ hx; omega).trans k5
    · exact (mS.block _ (Array.getElem?_eq_some_iff.1 k6).1 fun hx => by have := hS _ hx; omega).trans k6
  case assign =>
    intro l x W K hK
    simp only [encP]
    gi_wp2
    exact hK
  case stop =>
    rintro D cd pre W hD ⟨m, hm, e0⟩ ⟨pre', x, e, hall, hcase⟩ hK
    obtain ⟨m', rfl⟩ : ∃ m', m = m' + 1 := ⟨m - 1, by
      have hl := congrArg List.length (e0.symm.trans e)
      rw [upC_len c m hm, List.length_append, List.length_singleton] at hl
      omega⟩
    rw [upC_succ c m' hm] at e0
    obtain ⟨h1, h2⟩ := List.append_inj' (e0.symm.trans e) rfl
    have h3 : x = ⟨m', hm⟩ := by simpa using h2.symm
    subst h3
    have hlen : pre'.length = m' := by rw [← h1, upC_len c m' (by omega)]
    have hmem : ∀ j, j < m' → kindAt O (O.length - 1 - j) = 3 := fun j hj => by
      have h4 := upC_mem c m' j hj (by omega)
      rw [h1] at h4
      have h5 := hall _ h4
      rw [← HN.out]
      exact h5
    clear h1 h2 e e0 hall
    rcases hcase with ⟨rfl, mW, hkx, hnt⟩ | ⟨rfl, mW, hkx, ht, hr1, hr2⟩
    · have hres := index_not (O := O) (n := t) (m := m') (by have := HN.out; omega) (by rw [← HN.out]; exact hkx) (by rw [← hlen]; exact hnt)
      obtain ⟨q0, q1, q2⟩ := hfr W mW
      obtain ⟨z1, z2, z3⟩ := two_sets q1 q2 (by omega) (.int .i64 0) (.int .i64 (-26))
      have c1 := cell_eq q1 0
      have c2 := cell_eq q2 0
      have f1 := frz_eq q1 0
      have f2 := frz_eq q2 0
      have hK2 := (z3.block D (Array.getElem?_eq_some_iff.1 hK).1 (by simp; omega)).trans hK
      have HE0 := Lib.hid (And.intro mW (And.intro z1 (And.intro z2 (And.intro z3 (And.intro hres hK2)))))
      clear hkx hnt mW hres hmem hfr q0 q1 q2 z1 z2 z3 hK2
      gi_wp2
      obtain ⟨hm, hs1, hs2, hset, hres2, hK2⟩ := HE0.out
      generalize (W.setCell ⟨w.heap.size + 1, 0, none⟩ (.int .i64 0)).setCell ⟨w.heap.size + 1 + 1, 0, none⟩ (.int .i64 (-26)) = X at *
      have mP := put_mod X D (.deferred none)
      have d1 := cell_eq ((mP.block (w.heap.size + 1) (Array.getElem?_eq_some_iff.1 hs1).1 (by simp; omega)).trans hs1) 0
      have d2 := cell_eq ((mP.block (w.heap.size + 1 + 1) (Array.getElem?_eq_some_iff.1 hs2).1 (by simp; omega)).trans hs2) 0
      refine ⟨by simp, .inl ⟨_, _, rfl, run_takeDeferred hK2, ?_⟩⟩
      refine ⟨.tuple #[.int .i64 0, .int .i64 (-26)], by simp [results, Try.results22, go_sem, d1, d2], ?_, ((M2.then hm (fun y hy => Or.inr (by have := List.mem_singleton.1 hy; omega))).then hset (fun y hy => Or.inr (by simp at hy; omega))).then mP (fun y hy => Or.inr (by have := List.mem_singleton.1 hy; omega))⟩
      rw [hres2]
      rfl
    · have hres := index_found (O := O) (m := m') (by have := HN.out; omega) (fun j hj => by
        by_cases e : j = m'
        · subst e; rw [← HN.out]; exact hkx
        · exact hmem j (by omega))
      have hDne : D ≠ w.heap.size + 1 ∧ D ≠ w.heap.size + 1 + 1 := by omega
      have mP := put_mod W D (.deferred none)
      have hr1' := (mP.block (w.heap.size + 1) (Array.getElem?_eq_some_iff.1 hr1).1 (by simp; omega)).trans hr1
      have hr2' := (mP.block (w.heap.size + 1 + 1) (Array.getElem?_eq_some_iff.1 hr2).1 (by simp; omega)).trans hr2
      have d1 := cell_eq hr1' 0
      have d2 := cell_eq hr2' 0
      have HE := Lib.hid (And.intro mW (And.intro mP (And.intro hres (And.intro ht hlen))))
      clear hkx ht mW mP hres hmem hfr hr1 hr2 hr1' hr2' hlen
      gi_wp2
      refine ⟨by simp, .inl ⟨_, _, rfl, run_takeDeferred hK, ?_⟩⟩
      refine ⟨.tuple #[.int .i64 (xAt O (c - 1 - m')), .int .i64 0], by simp [results, Try.results22, go_sem, d1, d2], ?_, (M2.then HE.out.1 (fun y hy => Or.inr (by simp at hy; omega))).then HE.out.2.1 (fun y hy => Or.inr (by have := List.mem_singleton.1 hy; omega))⟩
      rw [HE.out.2.2.2.1, HE.out.2.2.2.2, HE.out.2.2.1, HN.out]
      rfl
  case body =>
    rintro l pre x W ⟨hm, hb3, hall, hnt⟩ hlen
    obtain ⟨q0, q1, q2⟩ := hfr W hm
    obtain ⟨ix, hix⟩ : ∃ ix, ix = c - 1 - x.1 := ⟨_, rfl⟩
    have hgne : g ≠ w.heap.size + 1 + 1 + 1 := by have := hgl (by have := x.2; omega); omega
    have hk := hm.cell (by simpa using hgne) (hkind2 ix (by have := x.2; omega)).1
    have hxv := hm.cell (by simpa using hgne) (hkind2 ix (by have := x.2; omega)).2
    have c0 := cell_eq q0 0
    have c1 := cell_eq q1 0
    have f1 := frz_eq q1 0
    have c2 := cell_eq q2 0
    have f2 := frz_eq q2 0
    have c3 := cell_eq hb3 0
    have f3 := frz_eq hb3 0
    obtain ⟨kd, hkd⟩ : ∃ kd, kd = kindAt O ix := ⟨_, rfl⟩
    obtain ⟨xd, hxd⟩ : ∃ xd, xd = xAt O ix := ⟨_, rfl⟩
    obtain ⟨pl, hpl2⟩ : ∃ pl, pl = pre.length := ⟨_, rfl⟩
    rw [← hkd] at hk
    rw [← hxd] at hxv
    rw [← hpl2] at c3 hb3 hnt hlen
    have hplI : (pl : Int) ≤ 128 := by omega
    have HI := Lib.hid (And.intro hm (And.intro hall (And.intro q1 (And.intro q2 (And.intro hb3 (And.intro hnt (And.intro hkd (And.intro hxd (And.intro hpl2 hix)))))))))
    rw [← hix]
    have hs0 := hm.size
    clear hm hall hix hkd hxd hpl2 q0 q1 q2 hb3 hkind2 hc2 b0 b1 b2 b3 b4 hfr hnt hlen
    by_cases hkk : kd = 3
    · by_cases ht : (pl : Int) = t
      · have q1 : ((pl : Int) == t) = true := by simpa using ht
        have q2 : (kd == 3) = true := by simpa using hkk
        have HKK := Lib.hid (And.intro hkk ht)
        clear hkk ht
        gi_wp2
        obtain ⟨hm, hall, k1, k2, hb3, hnt, hkd, hxd, hpl2, hix⟩ := HI.out
        obtain ⟨z1, z2, z3⟩ := two_sets k1 k2 (by omega) (.int .i64 xd) (.int .i64 0)
        refine ⟨⟨z3.size, fun k' o hk' ho hoc => (z3.block k' (Array.getElem?_eq_some_iff.1 ho).1 (by simp; omega)).trans ho⟩, pre, x, rfl, hall, Or.inr ⟨rfl, (hm.up (by simp)).trans (z3.up (by simp)), ?_, ?_, ?_, z2⟩⟩
        · rw [← hix, ← hkd]; exact HKK.out.1
        · rw [← hpl2]; exact HKK.out.2.symm
        · rw [← hix, ← hxd]; exact z1
      · have q1 : ((pl : Int) == t) = false := by simpa using ht
        have q2 : (kd == 3) = true := by simpa using hkk
        have HKK := Lib.hid (And.intro hkk ht)
        clear hkk ht
        gi_wp2
        obtain ⟨hm, hall, k1, k2, hb3, hnt, hkd, hxd, hpl2, hix⟩ := HI.out
        have hset := set_mod W (w.heap.size + 1 + 1 + 1) 0 (.int .i64 ((pl : Int) + 1))
        have hs1 := heap_setCell_same W (w.heap.size + 1 + 1 + 1) 0 _ _ (.int .i64 ((pl : Int) + 1)) hb3
        refine ⟨kf_mod hset (by omega) hs0, kq_mod hset hs0, hm.trans hset, ?_, fun y hy => ?_, ?_⟩
        · rw [List.length_append, List.length_singleton, ← hpl2]; exact hs1
        · rcases List.mem_append.1 hy with hy | hy
          · exact hall y hy
          · rw [List.mem_singleton.1 hy, ← hix, ← hkd]; exact HKK.out.1
        · rw [List.length_append, List.length_singleton, ← hpl2]
          have := HKK.out.2
          omega
    · have q2 : (kd == 3) = false := by simpa using hkk
      have HKK := Lib.hid hkk
      clear hkk
      gi_wp2
      obtain ⟨hm, hall, q1, q2, hb3, hnt, hkd, hxd, hpl2, hix⟩ := HI.out
      refine ⟨KeepsFrom.refl _ _, pre, x, rfl, hall, Or.inl ⟨rfl, hm, ?_, ?_⟩⟩
      · rw [← hix, ← hkd]; exact HKK.out
      · rw [← hpl2]; exact hnt
  case done =>
    rintro D ys W hD rfl ⟨hm, hb3, hall, hnt⟩ hK
    rw [upC_len c c (Nat.le_refl _)] at hnt
    have hres := index_no (O := O) (n := t) (by rw [← HN.out]; exact hnt)
    obtain ⟨q0, q1, q2⟩ := hfr W hm
    obtain ⟨z1, z2, z3⟩ := two_sets q1 q2 (by omega) (.int .i64 0) (.int .i64 (-26))
    have c1 := cell_eq q1 0
    have c2 := cell_eq q2 0
    have f1 := frz_eq q1 0
    have f2 := frz_eq q2 0
    have hK2 := (z3.block D (Array.getElem?_eq_some_iff.1 hK).1 (by simp; omega)).trans hK
    have HE0 := Lib.hid (And.intro hm (And.intro z1 (And.intro z2 (And.intro z3 (And.intro hres hK2)))))
    clear hm hres hfr q0 q1 q2 z1 z2 z3 hK2 hb3 hall hnt hK
    gi_wp2
    obtain ⟨hm, hs1, hs2, hset, hres2, hK2⟩ := HE0.out
    generalize (W.setCell ⟨w.heap.size + 1, 0, none⟩ (.int .i64 0)).setCell ⟨w.heap.size + 1 + 1, 0, none⟩ (.int .i64 (-26)) = X at *
    have mP := put_mod X D (.deferred none)
    have d1 := cell_eq ((mP.block (w.heap.size + 1) (Array.getElem?_eq_some_iff.1 hs1).1 (by simp; omega)).trans hs1) 0
    have d2 := cell_eq ((mP.block (w.heap.size + 1 + 1) (Array.getElem?_eq_some_iff.1 hs2).1 (by simp; omega)).trans hs2) 0
    refine ⟨by simp, .inl ⟨_, _, rfl, run_takeDeferred hK2, ?_⟩⟩
    refine ⟨.tuple #[.int .i64 0, .int .i64 (-26)], by simp [results, Try.results22, go_sem, d1, d2], ?_, ((M2.then hm (fun y hy => Or.inr (by have := List.mem_singleton.1 hy; omega))).then hset (fun y hy => Or.inr (by simp at hy; omega))).then mP (fun y hy => Or.inr (by have := List.mem_singleton.1 hy; omega))⟩
    rw [hres2]
    rfl
end Go.Proofs.Ytacmidlhfcnkiaa
