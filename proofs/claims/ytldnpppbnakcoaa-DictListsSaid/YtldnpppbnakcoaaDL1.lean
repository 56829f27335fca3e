/- Layer 9: what DictLists needs: the words of one list as a dictionary's own, a row of dictionaries. No condition. -/
import Derived.Test.YtldnpppbnakcoaaDK1
namespace Go.Proofs.Ytldnpppbnakcoaa
open Go.RowKit
set_option linter.unusedVariables false

/-- The words of list k, as they are in a dictionary of their own. -/
def ownW (W : List We) (k : Nat) : List We := (W.filter fun a => a.l == (k : Int)).map fun a => { a with l := 1 }
theorem ownW_l (W : List We) (k : Nat) : ∀ a ∈ ownW W k, a.l = 1 := fun a ha => by
  obtain ⟨b, _, rfl⟩ := List.mem_map.1 ha
  rfl
theorem ownW_len (W : List We) (k : Nat) : (ownW W k).length ≤ W.length := by
  unfold ownW
  rw [List.length_map]
  exact List.length_filter_le _ _
theorem ownW_snoc (W : List We) (a : We) (k : Nat) (h : a.l = (k : Int)) : ownW (W ++ [a]) k = ownW W k ++ [{ a with l := 1 }] := by
  unfold ownW
  rw [List.filter_append, List.map_append]
  simp [h]
theorem ownW_other (W : List We) (a : We) (k : Nat) (h : a.l ≠ (k : Int)) : ownW (W ++ [a]) k = ownW W k := by
  unfold ownW
  rw [List.filter_append, List.map_append]
  simp [h]
theorem names_own (W : List We) (k : Nat) : namesW (ownW W k) 1 = namesW W (k : Int) := by
  unfold namesW ownW
  rw [← List.map_reverse, List.filter_map, List.map_map]
  have e : ((fun x : We => x.l == 1) ∘ fun a : We => { a with l := 1 }) = fun _ => true := by
    funext a
    simp
  rw [e, List.filter_eq_self.2 (fun _ _ => rfl), ← List.filter_reverse]
  rfl
theorem find_own (W : List We) (k : Nat) (n : List UInt8) : resE (findW (ownW W k) [1] n) = resE (inW W (k : Int) n) := by
  rw [findW_one]
  unfold inW ownW
  rw [← List.map_reverse, List.find?_map, ← List.filter_reverse]
  have e : (isW 1 n ∘ fun a : We => { a with l := 1 }) = fun a : We => foldL a.n == foldL n := by
    funext a
    simp [isW]
  rw [e]
  generalize W.reverse = V
  induction V with
  | nil => rfl
  | cons a V ih =>
    rw [List.filter_cons, List.find?_cons]
    by_cases hl : a.l = (k : Int)
    · by_cases hn : foldL a.n = foldL n
      · simp [hl, hn, isW, resE, entV]
      · have h1 : isW (k : Int) n a = false := by simp [isW, hn]
        rw [h1]
        simp only [hl, beq_self_eq_true, if_true]
        rw [List.find?_cons]
        have h2 : (foldL a.n == foldL n) = false := by simpa using hn
        rw [h2]
        exact ih
    · have h1 : isW (k : Int) n a = false := by simp [isW, hl]
      rw [h1]
      have h2 : (a.l == (k : Int)) = false := by simpa using hl
      simp only [h2, Bool.false_eq_true, if_false]
      exact ih
theorem Many.of {n : Nat} {w0 w : World} {P : Nat → Nat} {D : Nat → Di} {U : List Nat} {p : Nat} {E E' : Di} {r : Value} {f : Nat} {xs : Array Value} (h : Many n w0 w P D U) (i : Nat) (hi : i < n) (hP : P i = p) (hD : D i = E) (k : ∀ T, Pd9 w p T E → Calls Try.prog f xs w (PPlays p T r E' w)) :
    Calls Try.prog f xs w fun e w' => e = .returned r ∧ Many n w0 w' P (updD D i E') U ∧ Keep U w w' := by
  subst hP hD
  exact many_of h hi k
theorem Many.tells {n : Nat} {w0 w : World} {P : Nat → Nat} {D : Nat → Di} {U : List Nat} {p : Nat} {E : Di} {r : Value} {f : Nat} {xs : Array Value} (h : Many n w0 w P D U) (i : Nat) (hi : i < n) (hP : P i = p) (hD : D i = E) (k : ∀ T, Pd9 w p T E → Calls Try.prog f xs w (DTells r w)) :
    Calls Try.prog f xs w fun e w' => e = .returned r ∧ Many n w0 w' P D U ∧ Mod [] w w' := by
  subst hP hD
  exact many_tells h hi k
theorem Many.names {n : Nat} {w0 w : World} {P : Nat → Nat} {D : Nat → Di} {U : List Nat} {p : Nat} {X : List ByteArray} {m : Nat} (h : Many n w0 w P D U) (i : Nat) (hi : i < n) (hP : P i = p) (l : Int) (hX : namesW (D i).W l = X) (hm : m = X.length) :
    Calls Try.prog 20 #[PtD p, .int .i64 l] w fun e w' => ∃ A cap, e = .returned (.slice A m cap) ∧ TxAt w' A X ∧ Many n w0 w' P D U ∧ Mod [] w w' := by
  subst hP hX hm
  exact many_names h hi l
theorem Many.ext1 {w0 w : World} {P P' : Nat → Nat} {D D' : Nat → Di} {U : List Nat} (h : Many 1 w0 w P D U) (hP : P 0 = P' 0) (hD : D 0 = D' 0) : Many 1 w0 w P' D' U :=
  h.ext (fun i hi => by
    have e : i = 0 := by omega
    rw [e, hP]) (fun i hi => by
    have e : i = 0 := by omega
    rw [e, hD])
/-- The dictionaries: the one of all lists, and the one of each list. -/
def famD (W : List We) (c : Int) : Nat → Di
  | 0 => ⟨W, 8, [1], c⟩
  | k + 1 => one (ownW W k)
/-- A row of nine pointers. -/
structure PRow (w : World) (g : Nat) (f : Nat → Value) : Prop where
  c : ∀ i, i < 9 → w.cell? ⟨g, i, none⟩ = some (f i)
  z : ∀ i, w.frozen? ⟨g, i, none⟩ = false
  lt : g < w.heap.size
theorem PRow.keep {w w' : World} {g : Nat} {f : Nat → Value} {U : List Nat} (h : PRow w g f) (k : Keep U w w') (hg : g ∈ U) : PRow w' g f :=
  ⟨fun i hi => k.cell hg (h.c i hi), fun i => (k.frozen hg h.lt).trans (h.z i), Nat.lt_of_lt_of_le h.lt k.size⟩
theorem PRow.far {w w' : World} {g : Nat} {f : Nat → Value} (h : PRow w g f) (k : Mod [] w w') : PRow w' g f := h.keep (U := [g]) (Keep.of k) (by simp)
theorem PRow.set {w : World} {g : Nat} {f : Nat → Value} (h : PRow w g f) (i : Nat) (hi : i < 9) (v : Value) : PRow (w.setCell ⟨g, i, none⟩ v) g (updD f i v) ∧ Mod [g] w (w.setCell ⟨g, i, none⟩ v) := by
  have hm : Mod [g] w (w.setCell ⟨g, i, none⟩ v) := (Mod.refl [g] w).set (x := ⟨g, i, none⟩) (Or.inl (by simp)) _
  refine ⟨⟨fun j hj => ?_, fun j => (World.frozen?_setCell _ _ _ _).trans (h.z j), Nat.lt_of_lt_of_le h.lt hm.size⟩, hm⟩
  by_cases e : j = i
  · subst e
    rw [updD_at]
    exact World.cell?_setCell_same _ _ _ (h := h.c j hj)
  · rw [updD_ne _ _ e, World.cell?_setCell_other (h := by intro e2; injection e2 with _ e2; exact e e2.symm)]
    exact h.c j hj
theorem PRow.ext {w : World} {g : Nat} {f f' : Nat → Value} (h : PRow w g f) (e : ∀ i, i < 9 → f i = f' i) : PRow w g f' := ⟨fun i hi => by rw [← e i hi]; exact h.c i hi, h.z, h.lt⟩
theorem infoDp : (Try.prog.info? 24).map (fun i => (i.zero, i.size, i.bytes)) = some (some (.pointer none), 1, 8) := by kernel_rfl
theorem madeP_nine : madeCells (Value.pointer none).cells 9 = (List.replicate 9 (Value.pointer none)).toArray := by kernel_rfl
theorem makeP_nine (w : World) : (Instr.makeSlice 63 (.int .i64 9) (.int .i64 9)).run Try.prog w = .ok (.slice (some ⟨w.heap.size, 0, none⟩) 9 9) (w.alloc (.cells (List.replicate 9 (Value.pointer none)).toArray 24)) := by
  obtain ⟨i, hi, hz0, hz1, hz2⟩ := info_parts infoDp
  have := run_make (P := Try.prog) w 63 24 i (.pointer none) Try.underlying63 hi hz0 .i64 .i64 9 9 (by omega) (Int.le_refl _) (by rw [hz2]; omega) (by omega)
  rw [this, hz1, ← madeP_nine]
  rfl
theorem PRow.new (w : World) : PRow (w.alloc (.cells (List.replicate 9 (Value.pointer none)).toArray 24)) w.heap.size fun _ => .pointer none := by
  have h := World.ownsRow_lit (base := 0) (e := 24) (size := 1) w (List.replicate 9 (Value.pointer none)).toArray 9 (Nat.zero_le _) (by decide) rfl
  refine ⟨fun i hi => ?_, fun i => h.frozenAt i, by rw [size_allocD]; omega⟩
  rw [h.cellAt i (by omega)]
  show (List.replicate 9 (Value.pointer none))[i]? = _
  rw [List.getElem?_replicate, if_pos hi]
end Go.Proofs.Ytldnpppbnakcoaa
