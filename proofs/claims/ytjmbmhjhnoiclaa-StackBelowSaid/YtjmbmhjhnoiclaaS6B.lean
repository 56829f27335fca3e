/- Layer 6: a stack among the call's own blocks: a block of 128 cells and of how many there are. Plain words on worlds and lists. No condition. -/
import Derived.Test.YtjmbmhjhnoiclaaS6A
namespace Go.Proofs.Ytjmbmhjhnoiclaa
open Go.RowKit
set_option linter.unusedVariables false

abbrev Pt (p : Nat) : Value := .pointer (some ⟨p, 0, none⟩)
/-- Block p of w is a stack: the cells C, of which the d undermost count. -/
structure Raw (w : World) (p : Nat) (C : List Int) (d : Nat) : Prop where
  len : C.length = 128
  c : ∀ i (hi : i < C.length), w.cell? ⟨p, i, none⟩ = some (.int .i64 C[i])
  dp : w.cell? ⟨p, 128, none⟩ = some (.int .i64 (d : Int))
  f : ∀ i, w.frozen? ⟨p, i, none⟩ = false
  n : d ≤ 128
  lp : p < w.heap.size
theorem Raw.mod {S : List Nat} {w w' : World} {p : Nat} {C : List Int} {d : Nat} (h : Raw w p C d) (k : Mod S w w') (hS : p ∉ S) : Raw w' p C d :=
  ⟨h.len, fun i hi => k.cell hS (h.c i hi), k.cell hS h.dp, fun i => (k.frozen hS h.lp).trans (h.f i), h.n, Nat.lt_of_lt_of_le h.lp k.size⟩
theorem Raw.far {w w' : World} {p : Nat} {C : List Int} {d : Nat} (h : Raw w p C d) (k : Mod [] w w') : Raw w' p C d := h.mod k (by simp)
theorem Raw.depth {w : World} {p : Nat} {C : List Int} {d : Nat} (h : Raw w p C d) (e : Nat) (he : e ≤ 128) : Raw (w.setCell ⟨p, 128, none⟩ (.int .i64 (e : Int))) p C e := by
  refine ⟨h.len, fun i hi => ?_, World.cell?_setCell_same _ _ _ (h := h.dp), fun i => (World.frozen?_setCell _ _ _ _).trans (h.f i), he, by simpa [World.setCell] using h.lp⟩
  have hne : (⟨p, 128, none⟩ : Addr) ≠ ⟨p, i, none⟩ := fun e => by
    have := h.len
    injection e
    omega
  rw [World.cell?_setCell_other (h := hne)]
  exact h.c i hi
theorem Raw.put {w : World} {p : Nat} {C : List Int} {d : Nat} (h : Raw w p C d) (i : Nat) (hi : i < 128) (x : Int) : Raw (w.setCell ⟨p, i, none⟩ (.int .i64 x)) p (C.set i x) d := by
  have hne : ∀ j, j ≠ i → (⟨p, i, none⟩ : Addr) ≠ ⟨p, j, none⟩ := fun j hj e => by injection e; omega
  refine ⟨by rw [List.length_set]; exact h.len, fun j hj => ?_, ?_, fun j => (World.frozen?_setCell _ _ _ _).trans (h.f j), h.n, by simpa [World.setCell] using h.lp⟩
  · have hj' : j < C.length := by rwa [List.length_set] at hj
    by_cases e : j = i
    · subst e
      rw [World.cell?_setCell_same _ _ _ (h := h.c j hj')]
      simp
    · rw [World.cell?_setCell_other (h := hne j e), h.c j hj']
      rw [List.getElem_set_ne (fun x => e x.symm)]
  · rw [World.cell?_setCell_other (h := hne 128 (by omega))]
    exact h.dp
/-- C with l in place of what lies from place o on. -/
def lay (C : List Int) (o : Nat) (l : List Int) : List Int := C.take o ++ l ++ C.drop (o + l.length)
theorem lay_len {C : List Int} {o : Nat} {l : List Int} (h : o + l.length ≤ C.length) : (lay C o l).length = C.length := by
  unfold lay; simp; omega
theorem lay_nil (C : List Int) (o : Nat) : lay C o [] = C := by simp [lay]
theorem lay_snoc {C : List Int} {o : Nat} {l : List Int} {x : Int} (h : o + l.length < C.length) : (lay C o l).set (o + l.length) x = lay C o (l ++ [x]) := by
  unfold lay
  have h1 : (C.take o ++ l).length = o + l.length := by simp; omega
  rw [List.set_append_right _ _ (by rw [h1]; exact Nat.le_refl _), h1, Nat.sub_self]
  have h2 : C.drop (o + l.length) = C[o + l.length] :: C.drop (o + l.length + 1) := by
    rw [List.drop_eq_getElem_cons h]
  rw [h2]
  simp [Nat.add_assoc]
theorem setCells_snoc (q : Nat) : ∀ (vs : List Value) (x : Value) (o : Nat) (w : World), w.setCells q o (vs ++ [x]) = (w.setCells q o vs).setCell ⟨q, o + vs.length, none⟩ x := by
  intro vs
  induction vs with
  | nil => intro x o w; rfl
  | cons v r ih => intro x o w; show ((w.setCell ⟨q, o, none⟩ v).setCells q (o + 1) (r ++ [x])) = _; rw [ih, show o + 1 + r.length = o + (v :: r).length by simp; omega]; rfl
theorem Raw.puts {w : World} {p : Nat} {C : List Int} {d : Nat} (h : Raw w p C d) (o : Nat) : ∀ (l : List Int), o + l.length ≤ 128 → Raw (w.setCells p o (cellsI l)) p (lay C o l) d := by
  suffices hk : ∀ (n : Nat) (l : List Int), l.length = n → o + l.length ≤ 128 → Raw (w.setCells p o (cellsI l)) p (lay C o l) d from fun l hl => hk l.length l rfl hl
  intro n
  induction n with
  | zero =>
    intro l hl _
    obtain rfl := List.eq_nil_of_length_eq_zero hl
    rw [lay_nil]
    exact h
  | succ n ih =>
    intro l hl ho
    have hne : l ≠ [] := fun e => by subst e; simp at hl
    have e := (List.dropLast_concat_getLast hne).symm
    generalize l.dropLast = r at e
    generalize l.getLast hne = x at e
    subst e
    simp at hl ho
    have e1 : cellsI (r ++ [x]) = cellsI r ++ [.int .i64 x] := by simp [cellsI]
    have hr := ih r hl (by omega)
    rw [e1, setCells_snoc, cellsI_len, ← lay_snoc (by rw [h.len]; omega)]
    exact hr.put (o + r.length) (by omega) x
/-- Block p of w is a stack of the cells L, the uppermost last. -/
def St (w : World) (p : Nat) (L : List Int) : Prop := (∃ C, Raw w p C L.length ∧ C.take L.length = L) ∧ ∀ x ∈ L, I64 x
theorem St.n {w : World} {p : Nat} {L : List Int} (h : St w p L) : L.length ≤ 128 := by obtain ⟨⟨C, h, _⟩, _⟩ := h; exact h.n
theorem St.lp {w : World} {p : Nat} {L : List Int} (h : St w p L) : p < w.heap.size := by obtain ⟨⟨C, h, _⟩, _⟩ := h; exact h.lp
theorem St.mod {S : List Nat} {w w' : World} {p : Nat} {L : List Int} (h : St w p L) (k : Mod S w w') (hS : p ∉ S) : St w' p L := by
  obtain ⟨⟨C, h, e⟩, hI⟩ := h
  exact ⟨⟨C, h.mod k hS, e⟩, hI⟩
theorem St.far {w w' : World} {p : Nat} {L : List Int} (h : St w p L) (k : Mod [] w w') : St w' p L := h.mod k (by simp)
theorem take_get {C L : List Int} {n : Nat} (e : C.take n = L) (i : Nat) (h : i < L.length) (hc : i < C.length) : C[i] = L[i] := by
  subst e
  simp
theorem St.cell {w : World} {p : Nat} {L : List Int} (h : St w p L) (i : Nat) (hi : i < L.length) : w.cell? ⟨p, i, none⟩ = some (.int .i64 L[i]) := by
  obtain ⟨⟨C, h, e⟩, _⟩ := h
  have := h.len
  have := h.n
  rw [h.c i (by omega), take_get e i hi (by omega)]
theorem St.depth {w : World} {p : Nat} {L : List Int} (h : St w p L) : w.cell? ⟨p, 128, none⟩ = some (.int .i64 (L.length : Int)) := by obtain ⟨⟨C, h, _⟩, _⟩ := h; exact h.dp
theorem St.free {w : World} {p : Nat} {L : List Int} (h : St w p L) (i : Nat) : w.frozen? ⟨p, i, none⟩ = false := by obtain ⟨⟨C, h, _⟩, _⟩ := h; exact h.f i
theorem Mod.one {S : List Nat} {a b : World} {p : Nat} (h : Mod S a b) (hp : p ∈ S ∨ a.heap.size ≤ p) (i : Nat) (v : Value) : Mod S a (b.setCell ⟨p, i, none⟩ v) := h.set (x := ⟨p, i, none⟩) hp v
theorem lay_take {C L l : List Int} (e : C.take L.length = L) (h : L.length + l.length ≤ C.length) : (lay C L.length l).take (L.length + l.length) = L ++ l := by
  unfold lay
  rw [e, ← List.length_append, List.take_left]
theorem St.of_raw {w : World} {p : Nat} {C L : List Int} (h : Raw w p C L.length) (e : C.take L.length = L) (hI : ∀ x ∈ L, I64 x) : St w p L := ⟨⟨C, h, e⟩, hI⟩
/-- Where a cut of the cells begins: one at their end begins at the head. -/
def pa (a : Nat) : Nat := if a = 128 then 0 else a
/-- 's.cells[a:b]'. -/
theorem slice128 (p a b : Nat) (hab : a ≤ b) (hb : b ≤ 128) (W : World) : (Instr.sliceAt 54 (.pointer (some ⟨p, 0, none⟩)) (some (.int .i64 (a : Int))) (some (.int .i64 (b : Int))) none).run Try.prog W = .ok (.slice (some ⟨p, pa a, none⟩) (b - a) (128 - a)) W := by
  have hl : Try.prog.arrayLen 54 = 128 := by kernel_rfl
  have he : Try.prog.elem 54 = 31 := by kernel_rfl
  rw [run_sliceAt_array_lh (P := Try.prog) W 54 ⟨p, 0, none⟩ (by kernel_rfl) .i64 .i64 (a : Int) (b : Int) (by omega) (by omega) (by rw [hl]; omega), he, Try.sizeOf31]
  simp only [Result.andThen, slicedAt, hl, Int.toNat_natCast, Addr.add]
  unfold pa
  by_cases h1 : a = 128
  · rw [if_pos h1.symm, if_pos h1]
  · rw [if_neg (fun e => h1 e.symm), if_neg h1, Nat.zero_add, Nat.mul_one]
    by_cases h0 : a = 0
    · subst h0; rfl
    · rw [if_neg h0]
theorem slice128u (p b : Nat) (hb : b ≤ 128) (W : World) : (Instr.sliceAt 54 (.pointer (some ⟨p, 0, none⟩)) none (some (.int .i64 (b : Int))) none).run Try.prog W = .ok (.slice (some ⟨p, 0, none⟩) b 128) W := by
  have hl : Try.prog.arrayLen 54 = 128 := by kernel_rfl
  have he : Try.prog.elem 54 = 31 := by kernel_rfl
  rw [run_sliceAt_array_h (P := Try.prog) W 54 ⟨p, 0, none⟩ (by kernel_rfl) .i64 (b : Int) (by omega) (by rw [hl]; omega), he, Try.sizeOf31]
  simp [Result.andThen, slicedAt, hl, Addr.add]
theorem slice128d (p a : Nat) (ha : a ≤ 128) (W : World) : (Instr.sliceAt 54 (.pointer (some ⟨p, 0, none⟩)) (some (.int .i64 (a : Int))) none none).run Try.prog W = .ok (.slice (some ⟨p, pa a, none⟩) (128 - a) (128 - a)) W := by
  have hl : Try.prog.arrayLen 54 = 128 := by kernel_rfl
  have he : Try.prog.elem 54 = 31 := by kernel_rfl
  rw [run_sliceAt_array_l (P := Try.prog) W 54 ⟨p, 0, none⟩ (by kernel_rfl) .i64 (a : Int) (by omega) (by rw [hl]; omega), he, Try.sizeOf31]
  simp only [Result.andThen, slicedAt, hl, Int.toNat_natCast, Addr.add]
  unfold pa
  by_cases h1 : a = 128
  · rw [if_pos h1.symm, if_pos h1]
  · rw [if_neg (fun e => h1 e.symm), if_neg h1, Nat.zero_add, Nat.mul_one]
    by_cases h0 : a = 0
    · subst h0; rfl
    · rw [if_neg h0]
end Go.Proofs.Ytjmbmhjhnoiclaa
