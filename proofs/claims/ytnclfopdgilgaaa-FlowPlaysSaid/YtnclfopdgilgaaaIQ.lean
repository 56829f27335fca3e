/- Layer 10: the program's Text. Condition: the table reads as the program's text lays it; there are at most 1000 instructions. -/
import Derived.Test.YtnclfopdgilgaaaIP
import Derived.Laws.MakeOwn
import Derived.Lib.Join
import Derived.Deep.LoopGhost
namespace Go.Proofs.Ytnclfopdgilgaaa
open Go.RowKit
set_option linter.unusedVariables false

def strsV (X : List ByteArray) : List Value := X.map Value.string
/-- Block b is these texts. -/
def Tv (w : World) (b : Nat) (X : List ByteArray) : Prop := w.heap[b]? = some (.cells (strsV X).toArray 9 (0, 0)) ∧ X.length ≤ 1000000000
theorem Tv.lt {w : World} {b : Nat} {X : List ByteArray} (h : Tv w b X) : b < w.heap.size := (Array.getElem?_eq_some_iff.1 h.1).1
theorem Tv.far {w w' : World} {b : Nat} {X : List ByteArray} (h : Tv w b X) (m : Mod [] w w') : Tv w' b X := ⟨(m.block b h.lt (by simp)).trans h.1, h.2⟩
theorem Tv.owns {w : World} {b : Nat} {X : List ByteArray} (h : Tv w b X) : w.ownsRow b 9 1 (.slice (some ⟨b, 0, none⟩) X.length X.length) X.length (strsV X) := by
  have hm : maxLen = 9223372036854775807 := rfl
  have h2 := h.2
  exact ⟨by simp [strsV], .inr ⟨b, X.length, _, rfl, Nat.le_refl _, h.1, Nat.le_refl _, by omega, by simp [strsV], by rw [Nat.mul_one]; exact List.take_of_length_le (by simp [strsV])⟩⟩
theorem Tv.cell {w : World} {b : Nat} {X : List ByteArray} (h : Tv w b X) {k : Nat} {v : ByteArray} (hk : X[k]? = some v) : w.cell? ⟨b, k, none⟩ = some (.string v) := by
  have hl := (List.getElem?_eq_some_iff.1 hk).1
  rw [h.owns.cellAt k (by omega)]
  simp [strsV, hk]
theorem Tv.free {w : World} {b : Nat} {X : List ByteArray} (h : Tv w b X) (k : Nat) : w.frozen? ⟨b, k, none⟩ = false := h.owns.frozenAt k
theorem Tv.set {w : World} {b : Nat} {X : List ByteArray} (h : Tv w b X) (k : Nat) (v : ByteArray) : Tv (w.setCell ⟨b, k, none⟩ (.string v)) b (X.set k v) := by
  refine ⟨?_, by rw [List.length_set]; exact h.2⟩
  rw [heap_setCell_same w b k _ _ _ h.1]
  congr 2
  simp [strsV, List.map_set]
theorem infoStr9 : (Try.prog.info? 9).map (fun i => (i.zero, i.size, i.bytes)) = some (some (.string ⟨#[]⟩), 1, 16) := by kernel_rfl
theorem made_strs (n : Nat) : madeCells (Value.string ⟨#[]⟩).cells n = (strsV (List.replicate n ⟨#[]⟩)).toArray := by
  apply Array.toList_inj.1
  rw [show (Value.string ⟨#[]⟩).cells = #[.string ⟨#[]⟩] from rfl, toList_madeCells_one]
  simp [strsV]
theorem make_strs (w : World) (n : Nat) (hn : n ≤ 1000000) : (Instr.makeSlice 81 (.int .i64 (n : Int)) (.int .i64 (n : Int))).run Try.prog w = .ok (.slice (some ⟨w.heap.size, 0, none⟩) n n) (w.alloc (.cells (strsV (List.replicate n ⟨#[]⟩)).toArray 9)) := by
  obtain ⟨i, hi, hz0, hz1, hz2⟩ := info_parts infoStr9
  have := run_make (P := Try.prog) w 81 9 i (.string ⟨#[]⟩) Try.underlying81 hi hz0 .i64 .i64 n n (by omega) (Int.le_refl _) (by rw [hz2]; omega) (by omega)
  rw [this, hz1, ← made_strs]
  simp
theorem Tv.new (w : World) (X : List ByteArray) (h : X.length ≤ 1000000000) : Tv (w.alloc (.cells (strsV X).toArray 9)) w.heap.size X := ⟨(MapKept.heap_alloc w _).1, h⟩
/-- The texts of the first k, the others empty. -/
def partsX (L : List Xi) (n k : Nat) : List ByteArray := (L.take k).map (fun x => str (textX x)) ++ List.replicate (n - k) ⟨#[]⟩
theorem parts_set (L : List Xi) (n k : Nat) (x : Xi) (hn : n = L.length) (hx : L[k]? = some x) : (partsX L n k).set k (str (textX x)) = partsX L n (k + 1) := by
  obtain ⟨hk, rfl⟩ := List.getElem?_eq_some_iff.1 hx
  unfold partsX
  obtain ⟨m, hm⟩ : ∃ m, n - k = m + 1 := ⟨n - k - 1, by omega⟩
  have hl : ((L.take k).map (fun x => str (textX x))).length = k := by simp; omega
  rw [hm, show n - (k + 1) = m by omega, List.set_append_right _ _ (by rw [hl]; exact Nat.le_refl _), hl, Nat.sub_self, List.replicate_succ, List.set_cons_zero, List.take_succ_eq_append_getElem hk, List.map_append, List.append_assoc]
  rfl
theorem parts_get (L : List Xi) (n k : Nat) (hn : n = L.length) (hk : k < n) : (partsX L n k)[k]? = some ⟨#[]⟩ := by
  unfold partsX
  have hl : ((L.take k).map (fun x => str (textX x))).length = k := by simp; omega
  rw [List.getElem?_append_right (by omega), hl, Nat.sub_self, List.getElem?_replicate, if_pos (by omega)]
/-- Instructions as text. -/
def joinX (L : List Xi) : List UInt8 := Lib.join (L.map textX) [32]
theorem join_snoc (X : List (List UInt8)) (y : List UInt8) : Lib.join (X ++ [y]) [32] = Lib.join X [32] ++ (if X = [] then y else 32 :: y) := by
  induction X with
  | nil => simp [Lib.join, List.intercalate]
  | cons a r ih =>
    cases r with
    | nil => simp [Lib.join, List.intercalate]
    | cons b q =>
      have e : Lib.join (a :: (b :: q ++ [y])) [32] = a ++ 32 :: Lib.join (b :: q ++ [y]) [32] := by simp [Lib.join, List.intercalate]
      have e2 : Lib.join (a :: b :: q) [32] = a ++ 32 :: Lib.join (b :: q) [32] := by simp [Lib.join, List.intercalate]
      rw [List.cons_append, e, ih, e2]
      simp
theorem join_take (L : List Xi) (k : Nat) (x : Xi) (hx : L[k]? = some x) : joinX (L.take (k + 1)) = joinX (L.take k) ++ (if k = 0 then textX x else 32 :: textX x) := by
  obtain ⟨hk, rfl⟩ := List.getElem?_eq_some_iff.1 hx
  unfold joinX
  rw [List.take_succ_eq_append_getElem hk, List.map_append, List.map_singleton, join_snoc]
  congr 1
  by_cases h : k = 0
  · subst h; simp
  · rw [if_neg h, if_neg]
    simp
    exact ⟨h, fun e => by subst e; simp at hk⟩
theorem join_len (L : List Xi) (k : Nat) (hk : k ≤ L.length) : (joinX (L.take k)).length ≤ 137 * k := by
  induction k with
  | zero => simp [joinX, Lib.join, List.intercalate]
  | succ k ih =>
    have := ih (by omega)
    rw [join_take L k L[k] (List.getElem?_eq_getElem (by omega)), List.length_append]
    have h2 := text_len L[k]
    split
    · omega
    · rw [List.length_cons]; omega
end Go.Proofs.Ytnclfopdgilgaaa
