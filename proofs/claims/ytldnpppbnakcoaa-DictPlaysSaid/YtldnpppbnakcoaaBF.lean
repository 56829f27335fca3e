/- Layer 9: slices.DeleteFunc over the order. Condition: the block is such a dictionary (Pd9). -/
import Derived.Test.YtldnpppbnakcoaaBE
namespace Go.Proofs.Ytldnpppbnakcoaa
open Go.RowKit
set_option linter.unusedVariables false

theorem lackc_calls {w : World} {p k : Nat} (h1 : w.cell? ⟨p, 2, none⟩ = some (.int .i64 (k : Int))) (l : Int) : Calls Try.prog 45 #[PtD p, .int .i64 l] w fun e w' => e = .returned (.bool (!inK (k : Int) l)) ∧ w = w' := by
  have lem : (decide (l < 1) || decide ((k : Int) < l)) = !inK (k : Int) l := by
    rw [Bool.eq_iff_iff]
    simp [inK]
  obtain ⟨r, hr⟩ : ∃ r, r = !inK (k : Int) l := ⟨_, rfl⟩
  rw [← hr] at lem ⊢
  clear hr
  go_enter Try.func45, Try.ntmps45
  go_wp2
  all_goals
    go_ret
    first | exact ⟨congrArg (fun b => Ending.returned (Value.bool b)) lem, rfl⟩ | (rw [← lem]; simp [*]; done)
theorem ints_upto (A : Option Addr) (len cap k : Nat) (hk : k ≤ cap) (W : World) :
    (Instr.sliceAt 29 (.slice A len cap) none (some (.int .i64 (k : Int))) none).run Try.prog W = .ok (.slice A k cap) W := by
  have ht := Try.underlying29
  have he : Try.prog.elem 29 = 3 := by simp [Program.elem, ht]
  have ht' : Try.prog.underlying 29 = some (.slice (Try.prog.elem 29)) := by rw [he]; exact ht
  have hz : (Go.sizeOf 3).run Try.prog W = .ok 1 W := by kernel_rfl
  rw [run_sliceAt_slice W 29 _ _ _ _ ht', run_slice_h W 29 A len cap ht' .i64 k (by omega) (by omega), he, hz]
  show Result.ok (sliced A 0 (k : Int).toNat cap 1) W = _
  unfold sliced
  have e1 : (if cap = 0 then A else A.map fun x => x.add (0 * 1)) = A := by
    split
    · rfl
    · cases A with
      | none => rfl
      | some x => show some (x.add (0 * 1)) = _; rw [Nat.zero_mul, addr_zero9]
  rw [e1, Int.toNat_natCast, Nat.sub_zero, Nat.sub_zero]
theorem ints_from (g n cap x : Nat) (hx : x < n) (hn : n ≤ cap) (W : World) : (Instr.sliceAt 29 (.slice (some ⟨g, 0, none⟩) n cap) (some (.int .i64 (x : Int))) none none).run Try.prog W = .ok (.slice (some ⟨g, x, none⟩) (n - x) (cap - x)) W := by
  have ht := Try.underlying29
  have he : Try.prog.elem 29 = 3 := by simp [Program.elem, ht]
  have ht' : Try.prog.underlying 29 = some (.slice (Try.prog.elem 29)) := by rw [he]; exact ht
  have hz : (Go.sizeOf 3).run Try.prog W = .ok 1 W := by kernel_rfl
  rw [run_sliceAt_slice W 29 _ _ _ _ ht', run_slice_l W 29 (some ⟨g, 0, none⟩) n cap ht' .i64 x (by omega) (by omega), he, hz]
  show Result.ok (sliced (some ⟨g, 0, none⟩) (x : Int).toNat n cap 1) W = _
  unfold sliced
  rw [Int.toNat_natCast, if_neg (by omega)]
  simp [Addr.add]
  omega
theorem Try.zeroInt9 (w : World) : (zeroValue 3).run Try.prog w = .ok (.int .i64 0) w := by kernel_rfl
/-- The row of numbers from x on is cleared. -/
theorem clearI_at {W : World} {g n cap x : Nat} {X : List Int} (rv : W.ownsRow 0 3 1 (.slice (some ⟨g, 0, none⟩) n cap) n (intsV X)) (hx : x < n) :
    ∃ W3, (∀ ty, (Builtin.clear_ #[29] ty #[.slice (some ⟨g, x, none⟩) (n - x) (cap - x)]).run Try.prog W = .ok (.tuple #[]) W3) ∧ W3.ownsRow 0 3 1 (.slice (some ⟨g, 0, none⟩) x cap) x (intsV (X.take x)) ∧ Mod [g] W W3 := by
  have hl : X.length = n := by have := rv.1; simpa [intsV] using this
  have hr := row_clear (.int .i64 0) (n - x) x (row_cutP rv x (by omega)) (by rw [List.length_take]; omega)
  rw [Nat.mul_one] at hr
  refine ⟨W.setCells g x (List.replicate (n - x) (.int .i64 0)), fun ty => ?_, by unfold intsV at hr ⊢; rw [List.map_take]; exact hr, (Mod.refl _ W).sets (by simp) _ _⟩
  exact Lib.run_clear_slice (P := Try.prog) W 29 3 ty (.int .i64 0) Try.underlying29 Try.zeroInt9 rfl rfl g x (n - x) (cap - x) (by omega)
    (fun j hj => by
      rw [rv.cellAt (x + j) (by omega)]
      have : x + j < (intsV X).length := by simp [intsV]; omega
      simp [this]) (fun j hj => rv.frozenAt _)
theorem lackI_filter_no {D : Di} {Y : List Int} (h : lackI D Y = -1) : Y.filter (inK (D.k : Int)) = Y := by
  rw [List.filter_eq_self]
  intro a ha
  unfold lackI at h
  cases hf : Y.findIdx? fun l => !D.known l with
  | none =>
    rw [List.findIdx?_eq_none_iff] at hf
    have := hf a ha
    simpa [Di.known, inK] using this
  | some i =>
    rw [hf] at h
    replace h : (i : Int) = -1 := h
    omega
theorem lackI_filter_at {D : Di} {Y : List Int} {i : Nat} (h : lackI D Y = (i : Int)) : i < Y.length ∧ (Y.take (i + 1)).filter (inK (D.k : Int)) = Y.take i := by
  unfold lackI at h
  cases hf : Y.findIdx? fun l => !D.known l with
  | none =>
    rw [hf] at h
    replace h : (-1 : Int) = (i : Int) := h
    omega
  | some k =>
    rw [hf] at h
    obtain rfl : k = i := by
      replace h : (k : Int) = (i : Int) := h
      omega
    rw [List.findIdx?_eq_some_iff_getElem] at hf
    obtain ⟨hk, h1, h2⟩ := hf
    refine ⟨hk, ?_⟩
    rw [List.take_add_one, List.getElem?_eq_getElem hk, List.filter_append]
    have e1 : (Y.take k).filter (inK (D.k : Int)) = Y.take k := by
      rw [List.filter_eq_self]
      intro a ha
      obtain ⟨j, hj, rfl⟩ := List.getElem_of_mem ha
      have hjk : j < k := by simp at hj; omega
      have := h2 j hjk
      rw [List.getElem_take]
      simpa [Di.known, inK] using this
    have e2 : inK (D.k : Int) Y[k] = false := by simpa only [Bool.not_eq_true', inK_known] using h1
    rw [e1]
    simp [e2]
/-- Where the loop of DeleteFunc stands: the first i numbers are those that stay of the first j; from j on nothing has turned. -/
structure DelAt (w : World) (q : Int → Bool) (g n cap : Nat) (Y : List Int) (i j : Nat) (W : World) (X : List Int) : Prop where
  lt : i < j
  le : j ≤ n
  row : W.ownsRow 0 3 1 (.slice (some ⟨g, 0, none⟩) n cap) n (intsV X)
  m : Mod [g] w W
  tk : X.take i = (Y.take j).filter q
  dr : X.drop j = Y.drop j
  lx : X.length = n
theorem DelAt.get {w : World} {q : Int → Bool} {g n cap : Nat} {Y : List Int} {i j : Nat} {W : World} {X : List Int} (h : DelAt w q g n cap Y i j W X) (hY : Y.length = n) (hj : j < n) : W.cell? ⟨g, j, none⟩ = some (.int .i64 (Y[j]'(by omega))) := by
  have hx := h.lx
  rw [h.row.cellAt j (by omega)]
  have e : X[j]? = Y[j]? := by
    have e1 : (X.drop j)[0]? = (Y.drop j)[0]? := by rw [h.dr]
    simpa using e1
  simp only [intsV, List.getElem?_map, e]
  rw [List.getElem?_eq_getElem (by omega)]
  rfl
theorem DelAt.drop {w : World} {q : Int → Bool} {g n cap : Nat} {Y : List Int} {i j : Nat} {W : World} {X : List Int} (h : DelAt w q g n cap Y i j W X) (hY : Y.length = n) (hj : j < n) (hq : q (Y[j]'(by omega)) = false) : DelAt w q g n cap Y i (j + 1) W X := by
  refine ⟨by have := h.lt; omega, hj, h.row, h.m, ?_, ?_, h.lx⟩
  · rw [h.tk, List.take_add_one, List.getElem?_eq_getElem (by omega), List.filter_append]
    simp [hq]
  · rw [← List.drop_drop, h.dr, List.drop_drop]
theorem DelAt.keep {w : World} {q : Int → Bool} {g n cap : Nat} {Y : List Int} {i j : Nat} {W : World} {X : List Int} (h : DelAt w q g n cap Y i j W X) (hY : Y.length = n) (hj : j < n) (hq : q (Y[j]'(by omega)) = true) : DelAt w q g n cap Y (i + 1) (j + 1) (W.setCell ⟨g, i, none⟩ (.int .i64 (Y[j]'(by omega)))) (X.set i (Y[j]'(by omega))) := by
  have hlt := h.lt
  have hlx := h.lx
  refine ⟨by omega, hj, ?_, h.m.set (Or.inl (by simp)) _, ?_, ?_, by simp [hlx]⟩
  · have := (h.row.stored i (.int .i64 (Y[j]'(by omega)))).1
    unfold intsV at this ⊢
    rw [List.map_set]
    exact this
  · rw [List.take_add_one, List.getElem?_set_self (by omega), List.take_set_of_le (Nat.le_refl _), h.tk, List.take_add_one (i := j), List.getElem?_eq_getElem (by omega), List.filter_append]
    simp [hq]
  · rw [List.drop_set_of_lt (by omega), ← List.drop_drop, h.dr, List.drop_drop]
theorem DelAt.fz {w : World} {q : Int → Bool} {g n cap : Nat} {Y : List Int} {i j : Nat} {W : World} {X : List Int} (h : DelAt w q g n cap Y i j W X) (k : Nat) : W.frozen? ⟨g, k, none⟩ = false := h.row.frozenAt k
end Go.Proofs.Ytldnpppbnakcoaa
