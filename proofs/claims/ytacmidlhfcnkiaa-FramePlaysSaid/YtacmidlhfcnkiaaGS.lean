/- Layer 14: slices of cells that came in; loops one within the other; FrameNests. No condition. -/
import Derived.Test.YtacmidlhfcnkiaaGP
import Derived.Test.YtacmidlhfcnkiaaRowIn
namespace Go.Proofs.Ytacmidlhfcnkiaa
open Go.RowKit Go.ChangeShapes Go.WideShapes
set_option linter.unusedVariables false

theorem sizeCellIn : ∀ w, (Go.sizeOf 31).run Try.prog w = .ok 1 w := fun w => by kernel_rfl
/-- The head of M cells of a slice that came in. -/
structure Came (w : World) (A : Option Addr) (len cap M : Nat) (X : List Int) (k : Nat) : Prop where
  s : Sl w A X
  n : X.length = k
  e : k = min len M
  i : ∀ x ∈ X, I64 x
  c : k ≤ cap
  l : len ≤ cap
  m : cap ≤ 9223372036854775807
  a : A = none → cap = 0
  h : ∀ W, (Instr.sliceAt 32 (.slice A len cap) none (some (.int .i64 (k : Int))) none).run Try.prog W = .ok (.slice A k cap) W
theorem sl_of_cells {w : World} {x : Addr} {zs X : List Int} (h4 : ∀ i, i < zs.length → w.cell? (x.add i) = some (.int .i64 (zs.getD i 0))) (hX : ∀ j (hj : j < X.length), ∃ hz : j < zs.length, X[j] = zs[j]) : Sl w (some x) X := fun j hj => by
  obtain ⟨hz, e⟩ := hX j hj
  have hc := h4 j hz
  have e2 : zs.getD j 0 = zs[j] := by simp [List.getD, List.getElem?_eq_getElem hz]
  rw [e2, ← e] at hc
  have hsp : x.spot = none := by
    have h0 := h4 0 (by omega)
    rw [add_zero_in] at h0
    exact World.cell?_spot h0
  obtain ⟨b, o, sp⟩ := x
  cases sp with
  | none =>
    refine ⟨b, o, rfl, ?_⟩
    have : (⟨b, o, none⟩ : Addr).add j = ⟨b, o + j, none⟩ := by unfold Addr.add; split <;> simp_all
    rw [← this]
    exact hc
  | some s => simp at hsp
theorem RowIn.came {w : World} {A : Option Addr} {len cap : Nat} {zs : List Int} (R : RowIn .i64 w A len cap zs) (M : Nat) : ∃ X k, Came w A len cap M X k := by
  rcases R with ⟨rfl, rfl, rfl, rfl⟩ | ⟨x, rfl, h1, h2, h3, h4, h5⟩
  · exact ⟨[], 0, Sl.nil _ _, rfl, by simp, by simp, Nat.le_refl _, Nat.le_refl _, by omega, fun _ => rfl, fun W => upto_in W _ _ Try.underlying32 sizeCellIn _ _ _ 0 (Nat.le_refl _)⟩
  · refine ⟨zs.take (min len M), min len M, sl_of_cells h4 fun j hj => ⟨by simp at hj; omega, by simp⟩, by simp; omega, rfl, fun y hy => i64_of_wf (h5 y (List.mem_of_mem_take hy)), by omega, h1, by unfold maxLen at h2; omega, by simp, fun W => upto_in W _ _ Try.underlying32 sizeCellIn _ _ _ _ (by omega)⟩
theorem Came.at_ {w : World} {A : Option Addr} {len cap M : Nat} {X : List Int} {k : Nat} (h : Came w A len cap M X k) {j : Nat} (hj : j < k) : ∃ b o, A = some ⟨b, o, none⟩ ∧ w.cell? ⟨b, o + j, none⟩ = some (.int .i64 (X.getD j 0)) := by
  have hj' : j < X.length := by rw [h.n]; exact hj
  obtain ⟨b, o, e, hc⟩ := h.s j hj'
  refine ⟨b, o, e, ?_⟩
  rw [hc]
  simp [List.getD, List.getElem?_eq_getElem hj']
theorem index_all {L : List Fm} (h : ∀ q ∈ L, q.k = 3) {i : Nat} (hi : i < L.length) : indexL (i : Int) L = some (L[L.length - 1 - i]'(by omega)).x := by
  unfold indexL loopAt
  rw [if_pos ⟨by omega, by omega, fun q hq => h q (List.mem_of_mem_drop hq)⟩, Int.toNat_natCast, List.getElem?_eq_getElem (by omega)]
  rfl
theorem index_out {L : List Fm} {i : Int} (h : ¬ (0 ≤ i ∧ i < (L.length : Int))) : indexL i L = none := by
  unfold indexL
  rw [loopAt_no h]
  rfl
abbrev lps (X : List Int) : List Fm := X.map fun c => lpF c c
theorem lps_kind (X : List Int) : ∀ q ∈ lps X, q.k = 3 := fun q hq => by
  obtain ⟨c, _, rfl⟩ := List.mem_map.1 hq
  rfl
theorem index_lps {X : List Int} {i n : Nat} (hn : n = X.length) (hi : i < n) : indexL (i : Int) (lps X) = some (X.getD (n - 1 - i) 0) := by
  subst hn
  rw [index_all (lps_kind X) (by simpa using hi)]
  have : X.length - 1 - i < X.length := by omega
  simp [List.getD, this]
/-- What is left when the uppermost loop was stepped. -/
def nest (X : List Int) (s : Int) : List Fm := if s < 0 then lps X.dropLast else lps X.dropLast ++ [lpF (wrap64 (X.getLastD 0 + s)) (X.getLastD 0)]
theorem ends_zero {s : Int} (hs : I64 s) : endsF 0 s = decide (s < 0) := by
  unfold endsF
  rw [Int.zero_add, wrap_id hs]
  by_cases h : s < 0
  · rw [if_pos h]; simp [h]
  · rw [if_neg h]; simp [h]
theorem step_lps {X : List Int} (hX : X ≠ []) {s : Int} (hs : I64 s) : stepEnd s (lps X) = decide (s < 0) ∧ stepL s (lps X) = nest X s ∧ errK 3 (-26) (lps X) = 0 := by
  obtain ⟨A, c, rfl⟩ : ∃ A c, X = A ++ [c] := by
    rcases List.eq_nil_or_concat X with e | ⟨A, q, e⟩
    · exact absurd e hX
    · exact ⟨A, q, by simpa using e⟩
  have e : lps (A ++ [c]) = lps A ++ [lpF c c] := by simp [lps]
  have hz : wrap64 (c - c) = 0 := by rw [Int.sub_self]; decide +kernel
  rw [e, (stepEnd_snoc s _ _).1, (stepEnd_snoc s _ _).2]
  unfold errK nest
  rw [topK_snoc]
  simp only [lpF, if_true, hz, ends_zero hs, List.dropLast_concat, Option.isSome_some]
  refine ⟨by simp, ?_, trivial⟩
  by_cases h : s < 0
  · simp [h]
  · simp [h]
theorem nest_kind (X : List Int) (s : Int) : ∀ q ∈ nest X s, q.k = 3 := fun q hq => by
  unfold nest at hq
  split at hq
  · exact lps_kind _ q hq
  · rcases List.mem_append.1 hq with hq | hq
    · exact lps_kind _ q hq
    · rw [List.mem_singleton.1 hq]
theorem index_nest_neg {X : List Int} {s : Int} {i n : Nat} (hs : s < 0) (hn : n = X.length) (hi : i + 1 < n) : indexL (i : Int) (nest X s) = some (X.getD (n - 2 - i) 0) := by
  unfold nest
  rw [if_pos hs, index_lps (n := n - 1) (by simp; omega) (by omega)]
  congr 1
  have h1 : n - 1 - 1 - i < X.dropLast.length := by simp; omega
  have h2 : n - 2 - i < X.length := by omega
  simp only [List.getD_eq_getElem?_getD, List.getElem?_eq_getElem h1, List.getElem?_eq_getElem h2, Option.getD_some]
  rw [List.getElem_dropLast]
  congr 1
theorem index_nest_top {X : List Int} {s : Int} {n : Nat} (hs : ¬ s < 0) (hn : n = X.length) (h0 : 0 < n) : indexL 0 (nest X s) = some (wrap64 (X.getD (n - 1) 0 + s)) := by
  have hX : X ≠ [] := by rintro rfl; simp at hn; omega
  have hg : X.getLastD 0 = X.getD (n - 1) 0 := by
    subst hn
    rw [List.getLastD_eq_getLast?, List.getLast?_eq_getElem?, List.getD_eq_getElem?_getD]
  have := index_all (nest_kind X s) (i := 0) (by unfold nest; rw [if_neg hs]; simp)
  rw [show ((0 : Nat) : Int) = 0 from rfl] at this
  rw [this]
  congr 1
  unfold nest
  simp only [if_neg hs, hg]
  rw [List.getElem_append_right (by simp)]
  simp
theorem index_nest_pos {X : List Int} {s : Int} {i n : Nat} (hs : ¬ s < 0) (hn : n = X.length) (h1 : 1 ≤ i) (hi : i < n) : indexL (i : Int) (nest X s) = some (X.getD (n - 1 - i) 0) := by
  have hlen : (nest X s).length = n := by unfold nest; rw [if_neg hs]; simp; omega
  rw [index_all (nest_kind X s) (i := i) (by omega)]
  congr 1
  have h2 : n - 1 - i < X.length := by omega
  have h3 : n - 1 - i < X.dropLast.length := by simp; omega
  have e : (nest X s)[(nest X s).length - 1 - i]'(by omega) = (lps X.dropLast)[n - 1 - i]'(by simpa using h3) := by
    have e2 : (nest X s)[(nest X s).length - 1 - i]? = some ((lps X.dropLast)[n - 1 - i]'(by simpa using h3)) := by
      rw [hlen]
      unfold nest
      rw [if_neg hs, List.getElem?_append_left (by simpa using h3), List.getElem?_eq_getElem]
    exact (List.getElem?_eq_some_iff.1 e2).2
  rw [e]
  simp [List.getD_eq_getElem?_getD, List.getElem?_eq_getElem h2]
theorem push_lps {X : List Int} {i : Nat} (hi : i < X.length) (h30 : X.length ≤ 30) : pushE (lps (X.take i)) = 0 ∧ pushL (lps (X.take i)) (lpF (X.getD i 0) (X.getD i 0)) = lps (X.take (i + 1)) := by
  unfold pushE pushL
  have : ¬ 128 ≤ (lps (X.take i)).length := by simp; omega
  rw [if_neg this, if_neg this]
  refine ⟨rfl, ?_⟩
  have e : X.take (i + 1) = X.take i ++ [X[i]] := by rw [List.take_add_one, List.getElem?_eq_getElem hi]; rfl
  have e2 : X.getD i 0 = X[i] := by simp [List.getD_eq_getElem?_getD, List.getElem?_eq_getElem hi]
  rw [e, e2]
  show lps (X.take i) ++ [lpF X[i] X[i]] = (X.take i ++ [X[i]]).map _
  rw [List.map_append]
  rfl
end Go.Proofs.Ytacmidlhfcnkiaa
