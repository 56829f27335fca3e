/- Layer 13: PrimMemory's own closure: a row of cells is put, and operations are done one by one. Condition: each of them ends without an error. -/
import Derived.Test.YtegcecpmdgljpaaGreatDoorVK
namespace Go.Proofs.YtegcecpmdgljpaaGreatDoor
open Go.RowKit
set_option linter.unusedVariables false

/-- Operations that end without an error, one behind the other: the stack and the rest behind them. -/
def Runs (w0 : World) (a : Ad) (K : List (Nat × Option Obj)) : List Int → List Int → Mu → List Int → Mu → Prop
  | [], C, μ, C', μ' => C = C' ∧ μ = μ'
  | op :: l, C, μ, C', μ' => ∃ C1 μ1, (∀ w, Lv w0 w a K C μ → Calls Tryz.prog 14 #[Pt a.s, .int .i64 op] w (Lv.Did w0 w a K C1 μ1 0)) ∧ Runs w0 a K l C1 μ1 C' μ'
theorem cut_none (C : List Int) : cutL (clamp 0) C = [] := by
  have h : (cutL (clamp 0) C).length = 0 := cutL_len _ _
  exact List.eq_nil_of_length_eq_zero h
theorem Sl.same {w w' : World} {b : Nat} {X : List Int} (h : Sl w (some ⟨b, 0, none⟩) X) (e : w'.heap[b]? = w.heap[b]?) : Sl w' (some ⟨b, 0, none⟩) X := fun j hj => by
  obtain ⟨b', o, e1, hc⟩ := h j hj
  injection e1 with e1
  injection e1 with e1 e2
  subst e1
  subst e2
  exact ⟨b, 0, rfl, (cell_of_heap e).trans hc⟩
/-- A row of numbers in a block. -/
def Ints (w : World) (b : Nat) (l : List Int) : Prop := ∀ j (hj : j < l.length), w.cell? ⟨b, j, none⟩ = some (.int .i64 l[j])
theorem ints_new (w : World) (l : List Int) (ty : TypeId) : Ints (w.alloc (.cells (cellsI l).toArray ty)) w.heap.size l := fun j hj => by
  rw [World.cell?_alloc_new]
  have := cellsI_get l j hj
  simpa using this
theorem Ints.sl {w : World} {b : Nat} {l : List Int} (h : Ints w b l) : Sl w (some ⟨b, 0, none⟩) l := fun j hj => ⟨b, 0, rfl, by rw [Nat.zero_add]; exact h j hj⟩
theorem Ints.mod {w w' : World} {b : Nat} {l : List Int} (h : Ints w b l) (k : Mod [] w w') : Ints w' b l := fun j hj => k.cell (by simp) (h j hj)
set_option maxHeartbeats 2000000 in
set_option maxRecDepth 100000 in
theorem run_calls {w0 w : World} {a : Ad} {K : List (Nat × Option Obj)} {C : List Int} {μ : Mu} (h : Lv w0 w a K C μ) (bb bl bo : Nat) (X ops : List Int) (c1 c2 n m : Nat) (hn : n = X.length) (hm : m = ops.length)
    (hb : w.cell? ⟨bb, 0, none⟩ = some (Pt a.s)) (kb : (bb, w.heap[bb]?) ∈ K) (hl : Ints w bl X) (kl : (bl, w.heap[bl]?) ∈ K) (hX : ∀ x ∈ X, I64 x) (hX8 : X.length ≤ 8)
    (ho : Ints w bo ops) (ko : (bo, w.heap[bo]?) ∈ K) (hm8 : ops.length ≤ 8) {C' : List Int} {μ' : Mu} (hr : Runs w0 a K ops X μ C' μ') :
    Calls Tryz.prog 25 #[.slice (some ⟨bl, 0, none⟩) n c1, .slice (some ⟨bo, 0, none⟩) m c2, Pt bb] w fun e w' => ∃ b c, e = .returned (.slice (some ⟨b, 0, none⟩) C'.length c) ∧ Ow w' b C' c ∧ Lv w0 w' a ((b, w'.heap[b]?) :: K) C' μ' := by
  have H := Lib.hid h
  have HX := Lib.hid (And.intro hX (And.intro hn hX8))
  have HL := Lib.hid (And.intro hl kl)
  have HO := Lib.hid (And.intro ho (And.intro ko hm))
  have HB := Lib.hid (And.intro hb kb)
  have HR := Lib.hid hr
  have hmm : (m : Int) ≤ 8 := by omega
  clear h hX hl kl ho ko kb hr hn hX8 hm8 hm
  go_enter Tryz.func25, Tryz.ntmps25
  go_wp2_with fail
  refine (H.out.stack).mono ?_
  rintro e w1 ⟨rfl, rfl⟩
  go_wp2_with fail
  refine (H.out.cut 0 zero_i64).mono ?_
  rintro e w2 ⟨rfl, h2⟩
  rw [cut_none] at h2
  have b2 := (cell_of_heap (o := 0) (h2.kept HB.out.2)).trans HB.out.1
  have H2 := Lib.hid h2
  clear h2 hb H
  go_wp2_with fail
  refine (H2.out.stack).mono ?_
  rintro e w3 ⟨rfl, rfl⟩
  go_wp2_with fail
  refine (H2.out.put c1 (HL.out.1.sl.same (H2.out.kept HL.out.2)) HX.out.2.1 HX.out.1 (by have := HX.out.2; omega)).mono ?_
  rintro e w3 ⟨rfl, h3⟩
  rw [putL_nil X (by have := HX.out.2; omega)] at h3
  have H3 := Lib.hid h3
  clear h3 b2 H2
  go_wp2_with fail
  go_loopw [17] (fun i wr => ∃ (j : Nat) (D : List Int) (ν : Mu), j ≤ m ∧ i = .int .i64 (j : Int) ∧ RowKit.Hid (Lv w0 wr a K D ν ∧ Runs w0 a K (ops.drop j) D ν C' μ')) (fun i _ => m - (intOf i).toNat)
  case atStart => exact ⟨0, X, μ, by omega, rfl, Lib.hid ⟨H3.out, by rw [List.drop_zero]; exact HR.out⟩⟩
  case round =>
    obtain ⟨j, D, ν, hj, rfl, HJ⟩ := hrel
    clear H3 HR
    have b3 := (cell_of_heap (o := 0) (HJ.out.1.kept HB.out.2)).trans HB.out.1
    by_cases hlt : j < m
    · have hlo : j < ops.length := by have := HO.out.2.2; omega
      have hc := (cell_of_heap (o := j) (HJ.out.1.kept HO.out.2.1)).trans (HO.out.1 j hlo)
      obtain ⟨hjl, hjr⟩ := HJ.out
      rw [List.drop_eq_getElem_cons hlo] at hjr
      obtain ⟨D1, ν1, k1, k2⟩ := hjr
      have HD := Lib.hid (k1 _ hjl)
      have HK2 := Lib.hid k2
      generalize ops[j] = op at hc HD
      have h1 : (0 : Int) ≤ (j : Int) := by omega
      have h2 : (j : Int) < (m : Int) := by omega
      clear k1 k2 hjl HJ hlo
      go_wp2_with fail
      refine (HD.out).mono ?_
      rintro e wn ⟨rfl, hn⟩
      have HN := Lib.hid (And.intro hn HK2.out)
      clear hn HD HK2
      go_wp2_with fail
      exact ⟨⟨j + 1, D1, ν1, hlt, by simp, HN⟩, by simp [intOf]; omega⟩
    · obtain rfl : j = m := by omega
      obtain ⟨hjl, hjr⟩ := HJ.out
      have e0 : ops.drop j = [] := List.drop_eq_nil_of_le (by have := HO.out.2.2; omega)
      rw [e0] at hjr
      obtain ⟨rfl, rfl⟩ := hjr
      have HE := Lib.hid hjl
      clear hjl HJ e0
      go_wp2_with fail
      refine (HE.out.stack).mono ?_
      rintro e w8 ⟨rfl, rfl⟩
      go_wp2_with fail
      refine (HE.out.all).mono ?_
      rintro e w8 ⟨b, c, rfl, hw, h8, hm⟩
      go_wp2
      go_ret
      exact ⟨b, c, rfl, hw, h8⟩
/-- The state between two uses of the closure: the box of the state's pointer is held. -/
def Lb (w0 w : World) (a : Ad) (bb : Nat) (C : List Int) (μ : Mu) : Prop := Lv w0 w a [(bb, w.heap[bb]?)] C μ ∧ w.cell? ⟨bb, 0, none⟩ = some (Pt a.s)
theorem Lv.sub {w0 w : World} {a : Ad} {K K' : List (Nat × Option Obj)} {C : List Int} {μ : Mu} (h : Lv w0 w a K C μ) (hs : ∀ x ∈ K', x ∈ K) : Lv w0 w a K' C μ := by
  obtain ⟨T, h1, m, hT, hK⟩ := h
  exact ⟨T, h1, m, hT, fun k hk => hK k (hs k hk)⟩
theorem Lv.hold2 {w0 w w' : World} {a : Ad} {K : List (Nat × Option Obj)} {C : List Int} {μ : Mu} (h : Lv w0 w a K C μ) (k : Mod [] w w') {b c : Nat} (hb : w.heap.size ≤ b) (hc : w.heap.size ≤ c) (lb : b < w'.heap.size) (lc : c < w'.heap.size) : Lv w0 w' a ((b, w'.heap[b]?) :: (c, w'.heap[c]?) :: K) C μ := by
  obtain ⟨T, h, m, hT, hK⟩ := h
  refine ⟨T, h.far k, m.far k, hT, fun x hx => ?_⟩
  rcases List.mem_cons.1 hx with rfl | hx
  · exact ⟨fun hx => by have := h.tl _ hx; omega, lb, rfl⟩
  · rcases List.mem_cons.1 hx with rfl | hx
    · exact ⟨fun hx => by have := h.tl _ hx; omega, lc, rfl⟩
    · obtain ⟨k1, k2, k3⟩ := hK x hx
      exact ⟨k1, Nat.lt_of_lt_of_le k2 k.size, (k.block _ k2 (by simp)).trans k3⟩
theorem Lb.far {w0 w w' : World} {a : Ad} {bb : Nat} {C : List Int} {μ : Mu} (h : Lb w0 w a bb C μ) (k : Mod [] w w') : Lb w0 w' a bb C μ := by
  obtain ⟨h1, h2⟩ := h
  have hlt : bb < w.heap.size := by obtain ⟨T, _, _, _, hK⟩ := h1; exact (hK _ (List.mem_singleton.2 rfl)).2.1
  have e := k.block bb hlt (by simp)
  refine ⟨?_, (cell_of_heap e).trans h2⟩
  rw [e]
  exact h1.far k
/-- One use of the closure: with a row of cells and one of operations, both laid just before. -/
theorem Lb.run {w0 w : World} {a : Ad} {bb : Nat} {C : List Int} {μ : Mu} (h : Lb w0 w a bb C μ) (X ops : List Int) (n m : Nat) (hn : n = X.length) (hm : m = ops.length) (hX : ∀ x ∈ X, I64 x) (hX8 : X.length ≤ 8) (hm8 : ops.length ≤ 8) {C' : List Int} {μ' : Mu} (hr : ∀ K, Runs w0 a K ops X μ C' μ') (w1 : World) (b1 b2 : Nat) (hw : Mod [] w w1) (l1 : b1 < w1.heap.size) (l2 : b2 < w1.heap.size) (g1 : w.heap.size ≤ b1) (g2 : w.heap.size ≤ b2) (i1 : Ints w1 b1 X) (i2 : Ints w1 b2 ops) :
    Calls Tryz.prog 25 #[.slice (some ⟨b1, 0, none⟩) n n, .slice (some ⟨b2, 0, none⟩) m m, Pt bb] w1 fun e w' => ∃ b c, e = .returned (.slice (some ⟨b, 0, none⟩) C'.length c) ∧ Ow w' b C' c ∧ Lb w0 w' a bb C' μ' := by
  have hK := (h.1.hold2 hw g1 g2 l1 l2)
  have hb := (h.far hw).2
  have e0 : w1.heap[bb]? = w.heap[bb]? := by
    have hlt : bb < w.heap.size := by obtain ⟨T, _, _, _, hK⟩ := h.1; exact (hK _ (List.mem_singleton.2 rfl)).2.1
    exact hw.block bb hlt (by simp)
  rw [← e0] at hK
  refine (run_calls hK bb b1 b2 X ops n m n m hn hm hb (by simp) i1 (by simp) hX hX8 i2 (by simp) hm8 (hr _)).mono ?_
  rintro e w' ⟨b, c, rfl, ho, h'⟩
  have e1 := h'.kept (b := bb) (o := w1.heap[bb]?) (by simp)
  refine ⟨b, c, rfl, ho, ?_, (cell_of_heap e1).trans hb⟩
  rw [e1]
  exact h'.sub (by simp)
end Go.Proofs.YtegcecpmdgljpaaGreatDoor
