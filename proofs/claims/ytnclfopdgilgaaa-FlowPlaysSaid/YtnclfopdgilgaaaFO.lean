/- Layer 11 (package flow): the table of all parts. No condition. -/
import Derived.Test.YtnclfopdgilgaaaFN
import Derived.Carry
namespace Go.Proofs.Ytnclfopdgilgaaa
open Go.RowKit
set_option linter.unusedVariables false

/-- Block b is a map; it is the function f. -/
def MapV (w : World) (b : Nat) (f : Int → Option Value) : Prop :=
  ∃ es c, w.heap[b]? = some (.map es c) ∧ (∀ x ∈ es.toList, ∃ n, x.key = .int .i64 n ∧ f n = some x.val) ∧ ∀ n v, f n = some v → ∃ x ∈ es.toList, x.key = .int .i64 n
theorem MapV.lt {w : World} {b : Nat} {f : Int → Option Value} (h : MapV w b f) : b < w.heap.size := by
  obtain ⟨es, c, h, _⟩ := h
  exact (Array.getElem?_eq_some_iff.1 h).1
theorem MapV.mod {w w' : World} {S : List Nat} {b : Nat} {f : Int → Option Value} (h : MapV w b f) (m : Mod S w w') (hb : b ∉ S) : MapV w' b f := by
  have hl := h.lt
  obtain ⟨es, c, h, h2⟩ := h
  exact ⟨es, c, (m.block b hl hb).trans h, h2⟩
theorem MapV.far {w w' : World} {b : Nat} {f : Int → Option Value} (h : MapV w b f) (m : Mod [] w w') : MapV w' b f := h.mod m (by simp)
theorem MapV.new (w : World) : MapV (w.alloc (.map #[] 0)) w.heap.size fun _ => none := ⟨#[], 0, (MapKept.heap_alloc w _).1, fun x hx => by simp at hx, fun n v h => by cases h⟩
theorem keysV {es : List MapEntry} {f : Int → Option Value} (h : ∀ x ∈ es, ∃ n, x.key = .int .i64 n ∧ f n = some x.val) : ∀ x ∈ es, MapKept.IsKey (.int .i64) x.key := fun x hx => by
  obtain ⟨n, e, _⟩ := h x hx
  rw [e]; rfl
theorem map_mod {w : World} {b : Nat} {es es' : Array MapEntry} {c c' : Nat} (h : w.heap[b]? = some (.map es c)) : Mod [b] w { w with heap := w.heap.setIfInBounds b (.map es' c') } :=
  ⟨rfl, rfl, rfl, by simp, fun k _ hk => (MapKept.heap_set h).2 k (by simpa using hk)⟩
def updV (f : Int → Option Value) (n : Int) (v : Value) : Int → Option Value := fun m => if m = n then some v else f m
theorem MapV.put {P : Program} {t k e : TypeId} (ht : P.underlying t = some (.map k e)) (hk : P.underlying k = some (.int .i64)) {w : World} {b : Nat} {f : Int → Option Value} (h : MapV w b f) (n : Int) (v : Value) (hf : f n = none) :
    ∃ w', (Instr.mapUpdate t (.map (some b)) (.int .i64 n) v).run P w = .ok () w' ∧ MapV w' b (updV f n v) ∧ Mod [b] w w' := by
  obtain ⟨es, c, hb, h1, h2⟩ := h
  rcases MapKept.findNow_spec (d := .int .i64) (k := .int .i64 n) rfl es.toList 0 (keysV h1) with ⟨e1, e2⟩ | ⟨j, x, e1, e2, e3⟩
  · refine ⟨_, by simp [Instr.mapUpdate, run_underlying ht, MapKept.run_getObj_map hb, MapKept.run_checkKey hk (k := .int .i64 n) rfl, MapKept.run_findKey hk e1, MapKept.run_setObj_map _ hb, Result.andThen]; rfl, ⟨_, _, (MapKept.heap_set hb).1, ?_, ?_⟩, map_mod hb⟩
    · intro y hy
      simp only [Array.toList_push, List.mem_append, List.mem_singleton] at hy
      rcases hy with hy | rfl
      · obtain ⟨m, a1, a2⟩ := h1 y hy
        refine ⟨m, a1, ?_⟩
        have : m ≠ n := fun e => e2 y hy (by rw [a1, e])
        simp [updV, this, a2]
      · exact ⟨n, rfl, by simp [updV]⟩
    · intro m u hu
      by_cases e : m = n
      · exact ⟨_, by simp only [Array.toList_push, List.mem_append, List.mem_singleton]; exact Or.inr rfl, by rw [e]⟩
      · simp only [updV, e, if_false] at hu
        obtain ⟨y, hy, ey⟩ := h2 m u hu
        exact ⟨y, by simp only [Array.toList_push, List.mem_append]; exact Or.inl hy, ey⟩
  · obtain ⟨m, a1, a2⟩ := h1 x (List.mem_of_getElem? e2)
    rw [a1] at e3
    injection e3 with _ e3
    subst e3
    rw [hf] at a2
    cases a2
/-- A look-up with an answer whether it is there. -/
theorem MapV.look {P : Program} {t k e : TypeId} (ht : P.underlying t = some (.map k e)) (hk : P.underlying k = some (.int .i64)) {w : World} {z : Value} (hz : (zeroValue e).run P w = .ok z w) {b : Nat} {f : Int → Option Value} (h : MapV w b f) (n : Int) :
    (Instr.lookup t (.map (some b)) (.int .i64 n) true).run P w = .ok (.tuple #[(f n).getD z, .bool (f n).isSome]) w := by
  obtain ⟨es, c, hb, h1, h2⟩ := h
  rcases MapKept.findNow_spec (d := .int .i64) (k := .int .i64 n) rfl es.toList 0 (keysV h1) with ⟨e1, e2⟩ | ⟨j, x, e1, e2, e3⟩
  · have hf : f n = none := by
      cases hf : f n with
      | none => rfl
      | some q =>
        obtain ⟨x, hx, ex⟩ := h2 n q hf
        exact absurd ex (e2 x hx)
    rw [hf]
    simp [Instr.lookup, run_underlying ht, MapKept.run_getObj_map hb, MapKept.run_checkKey hk (k := .int .i64 n) rfl, MapKept.run_findKey hk e1, hz, Result.andThen]
  · obtain ⟨m, a1, a2⟩ := h1 x (List.mem_of_getElem? e2)
    rw [a1] at e3
    injection e3 with _ e3
    subst e3
    rw [a2]
    simp [Instr.lookup, run_underlying ht, MapKept.run_getObj_map hb, MapKept.run_checkKey hk (k := .int .i64 m) rfl, MapKept.run_findKey hk e1, Result.andThen]
/-- The method of an act. -/
def actF (a : Nat) : FuncId := [41, 42, 43, 44, 45, 46, 47, 48, 49, 50, 51, 52, 53].getD a 0
theorem kd_one (w : World) (k : Nat) (t : TypeId) : KdAt (w.alloc (.cells #[.int .i64 (k : Int)] t)) (.slice (some ⟨w.heap.size, 0, none⟩) 1 1) [k] := ⟨_, 1, rfl, fun i x hx => ⟨_, rfl, by
  rw [World.cell?_alloc_new]
  match i, hx with
  | 0, hx => cases hx; rfl⟩⟩
theorem kd_two (w : World) (k l : Nat) (t : TypeId) : KdAt (w.alloc (.cells #[.int .i64 (k : Int), .int .i64 (l : Int)] t)) (.slice (some ⟨w.heap.size, 0, none⟩) 2 2) [k, l] := ⟨_, 2, rfl, fun i x hx => ⟨_, rfl, by
  rw [World.cell?_alloc_new]
  match i, hx with
  | 0, hx => cases hx; rfl
  | 1, hx => cases hx; rfl⟩⟩
theorem KdAt.mod {S : List Nat} {w w' : World} {v : Value} {ks : List Nat} (h : KdAt w v ks) (m : Mod S w w') (hS : ∀ g, v.ownBlock = some g → g ∉ S) : KdAt w' v ks := by
  obtain ⟨A, cap, e, h⟩ := h
  refine ⟨A, cap, e, fun i x hx => ?_⟩
  obtain ⟨b, e2, hc⟩ := h i x hx
  exact ⟨b, e2, m.cell (hS b (by rw [e, e2]; rfl)) hc⟩
/-- What the table is. -/
def Table (w : World) (M p : Nat) : Prop := ∃ f : Int → Option Value, MapV w M f ∧ (∀ n, rowI n = none → f n = none) ∧ ∀ n r, rowI n = some r → ∃ nv, f n = some (rowV nv r.within r.lays r.opens (actF r.act) p) ∧ KdAt w nv r.needs
theorem row_ends (n : Int) : rowI n = none ∨ (1 ≤ n ∧ n ≤ 17) := by
  unfold rowI
  by_cases h : 0 ≤ n
  · rw [if_pos h]
    by_cases h2 : n ≤ 17
    · by_cases h3 : n = 0
      · subst h3; exact Or.inl rfl
      · exact Or.inr ⟨by omega, h2⟩
    · left
      unfold rowN
      rw [List.getD_eq_getElem?_getD, List.getElem?_eq_none (by simp; omega)]
      rfl
  · rw [if_neg h]; exact Or.inl rfl
set_option maxHeartbeats 8000000 in
set_option maxRecDepth 100000 in
theorem rows_calls (w : World) (p : Nat) : Calls Try.prog 27 #[Pt p] w fun e w' => ∃ M, e = .returned (.map (some M)) ∧ Table w' M p ∧ Mod [] w w' := by
  obtain ⟨M, hM⟩ : ∃ M, M = w.heap.size := ⟨_, rfl⟩
  have b0 := MapV.new w
  rw [← hM] at b0
  have u0 := (Mod.refl [] w).alloc (.map #[] 0)
  have z0 : M < (w.alloc (.map #[] 0)).heap.size := b0.lt
  obtain ⟨w1, r1, b1, t1⟩ := b0.put (P := Try.prog) Try.underlying68 Try.underlying3 1 (rowV (.slice none 0 0) 0 4 true 41 p) (rfl)
  have q2 : KdAt (w1.alloc (.cells #[.int .i64 1] 64)) (.slice (some ⟨w1.heap.size, 0, none⟩) 1 1) [1] := kd_one w1 1 _
  have l2 : M < w1.heap.size := b1.lt
  have d2 := (Mod.refl [M] w1).alloc (.cells #[.int .i64 1] 64)
  have b1a := b1.far ((Mod.refl [] w1).alloc (.cells #[.int .i64 1] 64))
  obtain ⟨w2, r2, b2, t2⟩ := b1a.put (P := Try.prog) Try.underlying68 Try.underlying3 2 (rowV (.slice (some ⟨w1.heap.size, 0, none⟩) 1 1) 0 3 false 42 p) (by simp [updV])
  have q3 : KdAt (w2.alloc (.cells #[.int .i64 1] 64)) (.slice (some ⟨w2.heap.size, 0, none⟩) 1 1) [1] := kd_one w2 1 _
  have l3 : M < w2.heap.size := b2.lt
  have d3 := (Mod.refl [M] w2).alloc (.cells #[.int .i64 1] 64)
  have b2a := b2.far ((Mod.refl [] w2).alloc (.cells #[.int .i64 1] 64))
  obtain ⟨w3, r3, b3, t3⟩ := b2a.put (P := Try.prog) Try.underlying68 Try.underlying3 3 (rowV (.slice (some ⟨w2.heap.size, 0, none⟩) 1 1) 0 0 false 43 p) (by simp [updV])
  obtain ⟨w4, r4, b4, t4⟩ := b3.put (P := Try.prog) Try.underlying68 Try.underlying3 4 (rowV (.slice none 0 0) 0 0 true 44 p) (by simp [updV])
  have q5 : KdAt (w4.alloc (.cells #[.int .i64 2] 64)) (.slice (some ⟨w4.heap.size, 0, none⟩) 1 1) [2] := kd_one w4 2 _
  have l5 : M < w4.heap.size := b4.lt
  have d5 := (Mod.refl [M] w4).alloc (.cells #[.int .i64 2] 64)
  have b4a := b4.far ((Mod.refl [] w4).alloc (.cells #[.int .i64 2] 64))
  obtain ⟨w5, r5, b5, t5⟩ := b4a.put (P := Try.prog) Try.underlying68 Try.underlying3 5 (rowV (.slice (some ⟨w4.heap.size, 0, none⟩) 1 1) 0 4 true 45 p) (by simp [updV])
  have q6 : KdAt (w5.alloc (.cells #[.int .i64 1, .int .i64 2] 64)) (.slice (some ⟨w5.heap.size, 0, none⟩) 2 2) [1, 2] := kd_two w5 1 2 _
  have l6 : M < w5.heap.size := b5.lt
  have d6 := (Mod.refl [M] w5).alloc (.cells #[.int .i64 1, .int .i64 2] 64)
  have b5a := b5.far ((Mod.refl [] w5).alloc (.cells #[.int .i64 1, .int .i64 2] 64))
  obtain ⟨w6, r6, b6, t6⟩ := b5a.put (P := Try.prog) Try.underlying68 Try.underlying3 6 (rowV (.slice (some ⟨w5.heap.size, 0, none⟩) 2 2) 0 3 false 46 p) (by simp [updV])
  have q7 : KdAt (w6.alloc (.cells #[.int .i64 2] 64)) (.slice (some ⟨w6.heap.size, 0, none⟩) 1 1) [2] := kd_one w6 2 _
  have l7 : M < w6.heap.size := b6.lt
  have d7 := (Mod.refl [M] w6).alloc (.cells #[.int .i64 2] 64)
  have b6a := b6.far ((Mod.refl [] w6).alloc (.cells #[.int .i64 2] 64))
  obtain ⟨w7, r7, b7, t7⟩ := b6a.put (P := Try.prog) Try.underlying68 Try.underlying3 7 (rowV (.slice (some ⟨w6.heap.size, 0, none⟩) 1 1) 0 4 false 47 p) (by simp [updV])
  have q8 : KdAt (w7.alloc (.cells #[.int .i64 2] 64)) (.slice (some ⟨w7.heap.size, 0, none⟩) 1 1) [2] := kd_one w7 2 _
  have l8 : M < w7.heap.size := b7.lt
  have d8 := (Mod.refl [M] w7).alloc (.cells #[.int .i64 2] 64)
  have b7a := b7.far ((Mod.refl [] w7).alloc (.cells #[.int .i64 2] 64))
  obtain ⟨w8, r8, b8, t8⟩ := b7a.put (P := Try.prog) Try.underlying68 Try.underlying3 8 (rowV (.slice (some ⟨w7.heap.size, 0, none⟩) 1 1) 0 3 false 47 p) (by simp [updV])
  obtain ⟨w9, r9, b9, t9⟩ := b8.put (P := Try.prog) Try.underlying68 Try.underlying3 9 (rowV (.slice none 0 0) 0 5 true 48 p) (by simp [updV])
  obtain ⟨w10, r10, b10, t10⟩ := b9.put (P := Try.prog) Try.underlying68 Try.underlying3 10 (rowV (.slice none 0 0) 0 6 true 49 p) (by simp [updV])
  have q11 : KdAt (w10.alloc (.cells #[.int .i64 3] 64)) (.slice (some ⟨w10.heap.size, 0, none⟩) 1 1) [3] := kd_one w10 3 _
  have l11 : M < w10.heap.size := b10.lt
  have d11 := (Mod.refl [M] w10).alloc (.cells #[.int .i64 3] 64)
  have b10a := b10.far ((Mod.refl [] w10).alloc (.cells #[.int .i64 3] 64))
  obtain ⟨w11, r11, b11, t11⟩ := b10a.put (P := Try.prog) Try.underlying68 Try.underlying3 11 (rowV (.slice (some ⟨w10.heap.size, 0, none⟩) 1 1) 0 7 false 47 p) (by simp [updV])
  have q12 : KdAt (w11.alloc (.cells #[.int .i64 3] 64)) (.slice (some ⟨w11.heap.size, 0, none⟩) 1 1) [3] := kd_one w11 3 _
  have l12 : M < w11.heap.size := b11.lt
  have d12 := (Mod.refl [M] w11).alloc (.cells #[.int .i64 3] 64)
  have b11a := b11.far ((Mod.refl [] w11).alloc (.cells #[.int .i64 3] 64))
  obtain ⟨w12, r12, b12, t12⟩ := b11a.put (P := Try.prog) Try.underlying68 Try.underlying3 12 (rowV (.slice (some ⟨w11.heap.size, 0, none⟩) 1 1) 0 8 false 47 p) (by simp [updV])
  obtain ⟨w13, r13, b13, t13⟩ := b12.put (P := Try.prog) Try.underlying68 Try.underlying3 13 (rowV (.slice none 0 0) 3 9 false 50 p) (by simp [updV])
  obtain ⟨w14, r14, b14, t14⟩ := b13.put (P := Try.prog) Try.underlying68 Try.underlying3 14 (rowV (.slice none 0 0) 0 0 true 51 p) (by simp [updV])
  have q15 : KdAt (w14.alloc (.cells #[.int .i64 4] 64)) (.slice (some ⟨w14.heap.size, 0, none⟩) 1 1) [4] := kd_one w14 4 _
  have l15 : M < w14.heap.size := b14.lt
  have d15 := (Mod.refl [M] w14).alloc (.cells #[.int .i64 4] 64)
  have b14a := b14.far ((Mod.refl [] w14).alloc (.cells #[.int .i64 4] 64))
  obtain ⟨w15, r15, b15, t15⟩ := b14a.put (P := Try.prog) Try.underlying68 Try.underlying3 15 (rowV (.slice (some ⟨w14.heap.size, 0, none⟩) 1 1) 0 10 true 52 p) (by simp [updV])
  have q16 : KdAt (w15.alloc (.cells #[.int .i64 4, .int .i64 5] 64)) (.slice (some ⟨w15.heap.size, 0, none⟩) 2 2) [4, 5] := kd_two w15 4 5 _
  have l16 : M < w15.heap.size := b15.lt
  have d16 := (Mod.refl [M] w15).alloc (.cells #[.int .i64 4, .int .i64 5] 64)
  have b15a := b15.far ((Mod.refl [] w15).alloc (.cells #[.int .i64 4, .int .i64 5] 64))
  obtain ⟨w16, r16, b16, t16⟩ := b15a.put (P := Try.prog) Try.underlying68 Try.underlying3 16 (rowV (.slice (some ⟨w15.heap.size, 0, none⟩) 2 2) 0 3 false 53 p) (by simp [updV])
  have q17 : KdAt (w16.alloc (.cells #[.int .i64 4] 64)) (.slice (some ⟨w16.heap.size, 0, none⟩) 1 1) [4] := kd_one w16 4 _
  have l17 : M < w16.heap.size := b16.lt
  have d17 := (Mod.refl [M] w16).alloc (.cells #[.int .i64 4] 64)
  have b16a := b16.far ((Mod.refl [] w16).alloc (.cells #[.int .i64 4] 64))
  obtain ⟨w17, r17, b17, t17⟩ := b16a.put (P := Try.prog) Try.underlying68 Try.underlying3 17 (rowV (.slice (some ⟨w16.heap.size, 0, none⟩) 1 1) 0 11 false 43 p) (by simp [updV])
  have s17 : Mod [M] w17 w17 := Mod.refl _ _
  have e17 := t17.trans s17
  have s16 := d17.trans e17
  have e16 := t16.trans s16
  have s15 := d16.trans e16
  have e15 := t15.trans s15
  have s14 := d15.trans e15
  have e14 := t14.trans s14
  have s13 := e14
  have e13 := t13.trans s13
  have s12 := e13
  have e12 := t12.trans s12
  have s11 := d12.trans e12
  have e11 := t11.trans s11
  have s10 := d11.trans e11
  have e10 := t10.trans s10
  have s9 := e10
  have e9 := t9.trans s9
  have s8 := e9
  have e8 := t8.trans s8
  have s7 := d8.trans e8
  have e7 := t7.trans s7
  have s6 := d7.trans e7
  have e6 := t6.trans s6
  have s5 := d6.trans e6
  have e5 := t5.trans s5
  have s4 := d5.trans e5
  have e4 := t4.trans s4
  have s3 := e4
  have e3 := t3.trans s3
  have s2 := d3.trans e3
  have e2 := t2.trans s2
  have s1 := d2.trans e2
  have e1 := t1.trans s1
  have s0 := e1
  have hfin : Mod [] w w17 := u0.then s0 (fun x hx => Or.inr (by rw [List.mem_singleton.1 hx, hM]; exact Nat.le_refl _))
  have HF : RowKit.Hid (Table w17 M p) := Lib.hid (by
    refine ⟨_, b17, fun n hn => ?_, fun n r hr => ?_⟩
    · have hne : ∀ k : Int, rowI k ≠ none → n ≠ k := fun k hk e => hk (by rw [← e]; exact hn)
      simp only [updV]
      rw [if_neg (hne 17 (by simp [rowI, rowN]))]
      rw [if_neg (hne 16 (by simp [rowI, rowN]))]
      rw [if_neg (hne 15 (by simp [rowI, rowN]))]
      rw [if_neg (hne 14 (by simp [rowI, rowN]))]
      rw [if_neg (hne 13 (by simp [rowI, rowN]))]
      rw [if_neg (hne 12 (by simp [rowI, rowN]))]
      rw [if_neg (hne 11 (by simp [rowI, rowN]))]
      rw [if_neg (hne 10 (by simp [rowI, rowN]))]
      rw [if_neg (hne 9 (by simp [rowI, rowN]))]
      rw [if_neg (hne 8 (by simp [rowI, rowN]))]
      rw [if_neg (hne 7 (by simp [rowI, rowN]))]
      rw [if_neg (hne 6 (by simp [rowI, rowN]))]
      rw [if_neg (hne 5 (by simp [rowI, rowN]))]
      rw [if_neg (hne 4 (by simp [rowI, rowN]))]
      rw [if_neg (hne 3 (by simp [rowI, rowN]))]
      rw [if_neg (hne 2 (by simp [rowI, rowN]))]
      rw [if_neg (hne 1 (by simp [rowI, rowN]))]
    · rcases row_ends n with h | ⟨h1, h2⟩
      · rw [h] at hr; cases hr
      · have hc : n = 1 ∨ n = 2 ∨ n = 3 ∨ n = 4 ∨ n = 5 ∨ n = 6 ∨ n = 7 ∨ n = 8 ∨ n = 9 ∨ n = 10 ∨ n = 11 ∨ n = 12 ∨ n = 13 ∨ n = 14 ∨ n = 15 ∨ n = 16 ∨ n = 17 := by omega
        rcases hc with rfl | rfl | rfl | rfl | rfl | rfl | rfl | rfl | rfl | rfl | rfl | rfl | rfl | rfl | rfl | rfl | rfl
        · obtain rfl : (⟨[], 0, 4, true, 0⟩ : Rw) = r := Option.some.inj ((show rowI 1 = some ⟨[], 0, 4, true, 0⟩ from rfl).symm.trans hr)
          exact ⟨.slice none 0 0, by simp [updV, actF], KdAt.nil _⟩
        · obtain rfl : (⟨[1], 0, 3, false, 1⟩ : Rw) = r := Option.some.inj ((show rowI 2 = some ⟨[1], 0, 3, false, 1⟩ from rfl).symm.trans hr)
          exact ⟨(.slice (some ⟨w1.heap.size, 0, none⟩) 1 1), by simp [updV, actF], q2.mod e2 fun g hg hx => by have h8 := Option.some.inj hg; have h9 := List.mem_singleton.1 hx; rw [h9] at h8; have : w1.heap.size = M := h8; omega⟩
        · obtain rfl : (⟨[1], 0, 0, false, 2⟩ : Rw) = r := Option.some.inj ((show rowI 3 = some ⟨[1], 0, 0, false, 2⟩ from rfl).symm.trans hr)
          exact ⟨(.slice (some ⟨w2.heap.size, 0, none⟩) 1 1), by simp [updV, actF], q3.mod e3 fun g hg hx => by have h8 := Option.some.inj hg; have h9 := List.mem_singleton.1 hx; rw [h9] at h8; have : w2.heap.size = M := h8; omega⟩
        · obtain rfl : (⟨[], 0, 0, true, 3⟩ : Rw) = r := Option.some.inj ((show rowI 4 = some ⟨[], 0, 0, true, 3⟩ from rfl).symm.trans hr)
          exact ⟨.slice none 0 0, by simp [updV, actF], KdAt.nil _⟩
        · obtain rfl : (⟨[2], 0, 4, true, 4⟩ : Rw) = r := Option.some.inj ((show rowI 5 = some ⟨[2], 0, 4, true, 4⟩ from rfl).symm.trans hr)
          exact ⟨(.slice (some ⟨w4.heap.size, 0, none⟩) 1 1), by simp [updV, actF], q5.mod e5 fun g hg hx => by have h8 := Option.some.inj hg; have h9 := List.mem_singleton.1 hx; rw [h9] at h8; have : w4.heap.size = M := h8; omega⟩
        · obtain rfl : (⟨[1, 2], 0, 3, false, 5⟩ : Rw) = r := Option.some.inj ((show rowI 6 = some ⟨[1, 2], 0, 3, false, 5⟩ from rfl).symm.trans hr)
          exact ⟨(.slice (some ⟨w5.heap.size, 0, none⟩) 2 2), by simp [updV, actF], q6.mod e6 fun g hg hx => by have h8 := Option.some.inj hg; have h9 := List.mem_singleton.1 hx; rw [h9] at h8; have : w5.heap.size = M := h8; omega⟩
        · obtain rfl : (⟨[2], 0, 4, false, 6⟩ : Rw) = r := Option.some.inj ((show rowI 7 = some ⟨[2], 0, 4, false, 6⟩ from rfl).symm.trans hr)
          exact ⟨(.slice (some ⟨w6.heap.size, 0, none⟩) 1 1), by simp [updV, actF], q7.mod e7 fun g hg hx => by have h8 := Option.some.inj hg; have h9 := List.mem_singleton.1 hx; rw [h9] at h8; have : w6.heap.size = M := h8; omega⟩
        · obtain rfl : (⟨[2], 0, 3, false, 6⟩ : Rw) = r := Option.some.inj ((show rowI 8 = some ⟨[2], 0, 3, false, 6⟩ from rfl).symm.trans hr)
          exact ⟨(.slice (some ⟨w7.heap.size, 0, none⟩) 1 1), by simp [updV, actF], q8.mod e8 fun g hg hx => by have h8 := Option.some.inj hg; have h9 := List.mem_singleton.1 hx; rw [h9] at h8; have : w7.heap.size = M := h8; omega⟩
        · obtain rfl : (⟨[], 0, 5, true, 7⟩ : Rw) = r := Option.some.inj ((show rowI 9 = some ⟨[], 0, 5, true, 7⟩ from rfl).symm.trans hr)
          exact ⟨.slice none 0 0, by simp [updV, actF], KdAt.nil _⟩
        · obtain rfl : (⟨[], 0, 6, true, 8⟩ : Rw) = r := Option.some.inj ((show rowI 10 = some ⟨[], 0, 6, true, 8⟩ from rfl).symm.trans hr)
          exact ⟨.slice none 0 0, by simp [updV, actF], KdAt.nil _⟩
        · obtain rfl : (⟨[3], 0, 7, false, 6⟩ : Rw) = r := Option.some.inj ((show rowI 11 = some ⟨[3], 0, 7, false, 6⟩ from rfl).symm.trans hr)
          exact ⟨(.slice (some ⟨w10.heap.size, 0, none⟩) 1 1), by simp [updV, actF], q11.mod e11 fun g hg hx => by have h8 := Option.some.inj hg; have h9 := List.mem_singleton.1 hx; rw [h9] at h8; have : w10.heap.size = M := h8; omega⟩
        · obtain rfl : (⟨[3], 0, 8, false, 6⟩ : Rw) = r := Option.some.inj ((show rowI 12 = some ⟨[3], 0, 8, false, 6⟩ from rfl).symm.trans hr)
          exact ⟨(.slice (some ⟨w11.heap.size, 0, none⟩) 1 1), by simp [updV, actF], q12.mod e12 fun g hg hx => by have h8 := Option.some.inj hg; have h9 := List.mem_singleton.1 hx; rw [h9] at h8; have : w11.heap.size = M := h8; omega⟩
        · obtain rfl : (⟨[], 3, 9, false, 9⟩ : Rw) = r := Option.some.inj ((show rowI 13 = some ⟨[], 3, 9, false, 9⟩ from rfl).symm.trans hr)
          exact ⟨.slice none 0 0, by simp [updV, actF], KdAt.nil _⟩
        · obtain rfl : (⟨[], 0, 0, true, 10⟩ : Rw) = r := Option.some.inj ((show rowI 14 = some ⟨[], 0, 0, true, 10⟩ from rfl).symm.trans hr)
          exact ⟨.slice none 0 0, by simp [updV, actF], KdAt.nil _⟩
        · obtain rfl : (⟨[4], 0, 10, true, 11⟩ : Rw) = r := Option.some.inj ((show rowI 15 = some ⟨[4], 0, 10, true, 11⟩ from rfl).symm.trans hr)
          exact ⟨(.slice (some ⟨w14.heap.size, 0, none⟩) 1 1), by simp [updV, actF], q15.mod e15 fun g hg hx => by have h8 := Option.some.inj hg; have h9 := List.mem_singleton.1 hx; rw [h9] at h8; have : w14.heap.size = M := h8; omega⟩
        · obtain rfl : (⟨[4, 5], 0, 3, false, 12⟩ : Rw) = r := Option.some.inj ((show rowI 16 = some ⟨[4, 5], 0, 3, false, 12⟩ from rfl).symm.trans hr)
          exact ⟨(.slice (some ⟨w15.heap.size, 0, none⟩) 2 2), by simp [updV, actF], q16.mod e16 fun g hg hx => by have h8 := Option.some.inj hg; have h9 := List.mem_singleton.1 hx; rw [h9] at h8; have : w15.heap.size = M := h8; omega⟩
        · obtain rfl : (⟨[4], 0, 11, false, 2⟩ : Rw) = r := Option.some.inj ((show rowI 17 = some ⟨[4], 0, 11, false, 2⟩ from rfl).symm.trans hr)
          exact ⟨(.slice (some ⟨w16.heap.size, 0, none⟩) 1 1), by simp [updV, actF], q17.mod e17 fun g hg hx => by have h8 := Option.some.inj hg; have h9 := List.mem_singleton.1 hx; rw [h9] at h8; have : w16.heap.size = M := h8; omega⟩)
  have HM := Lib.hid hfin
  clear b0 u0 z0 hfin b1 b2 b3 b4 b5 b6 b7 b8 b9 b10 b11 b12 b13 b14 b15 b16 b17 t1 t2 t3 t4 t5 t6 t7 t8 t9 t10 t11 t12 t13 t14 t15 t16 t17 s0 s1 s2 s3 s4 s5 s6 s7 s8 s9 s10 s11 s12 s13 s14 s15 s16 s17 e1 e2 e3 e4 e5 e6 e7 e8 e9 e10 e11 e12 e13 e14 e15 e16 e17 q2 l2 d2 b1a q3 l3 d3 b2a q5 l5 d5 b4a q6 l6 d6 b5a q7 l7 d7 b6a q8 l8 d8 b7a q11 l11 d11 b10a q12 l12 d12 b11a q15 l15 d15 b14a q16 l16 d16 b15a q17 l17 d17 b16a
  rw [hM] at HF r1 r2 r3 r4 r5 r6 r7 r8 r9 r10 r11 r12 r13 r14 r15 r16 r17
  clear hM
  replace r1 : (Instr.mapUpdate 68 (.map (some w.heap.size)) (.int .i64 1) (.agg #[(.slice none 0 0), .int .i64 0, .int .u8 4, .bool true, .func (.func 41) #[Pt p] #[]])).run Try.prog (w.alloc (.map #[] 0)) = .ok () w1 := r1
  replace r2 : (Instr.mapUpdate 68 (.map (some w.heap.size)) (.int .i64 2) (.agg #[(.slice (some ⟨w1.heap.size, 0, none⟩) 1 1), .int .i64 0, .int .u8 3, .bool false, .func (.func 42) #[Pt p] #[]])).run Try.prog (w1.alloc (.cells #[.int .i64 1] 64)) = .ok () w2 := r2
  replace r3 : (Instr.mapUpdate 68 (.map (some w.heap.size)) (.int .i64 3) (.agg #[(.slice (some ⟨w2.heap.size, 0, none⟩) 1 1), .int .i64 0, .int .u8 0, .bool false, .func (.func 43) #[Pt p] #[]])).run Try.prog (w2.alloc (.cells #[.int .i64 1] 64)) = .ok () w3 := r3
  replace r4 : (Instr.mapUpdate 68 (.map (some w.heap.size)) (.int .i64 4) (.agg #[(.slice none 0 0), .int .i64 0, .int .u8 0, .bool true, .func (.func 44) #[Pt p] #[]])).run Try.prog w3 = .ok () w4 := r4
  replace r5 : (Instr.mapUpdate 68 (.map (some w.heap.size)) (.int .i64 5) (.agg #[(.slice (some ⟨w4.heap.size, 0, none⟩) 1 1), .int .i64 0, .int .u8 4, .bool true, .func (.func 45) #[Pt p] #[]])).run Try.prog (w4.alloc (.cells #[.int .i64 2] 64)) = .ok () w5 := r5
  replace r6 : (Instr.mapUpdate 68 (.map (some w.heap.size)) (.int .i64 6) (.agg #[(.slice (some ⟨w5.heap.size, 0, none⟩) 2 2), .int .i64 0, .int .u8 3, .bool false, .func (.func 46) #[Pt p] #[]])).run Try.prog (w5.alloc (.cells #[.int .i64 1, .int .i64 2] 64)) = .ok () w6 := r6
  replace r7 : (Instr.mapUpdate 68 (.map (some w.heap.size)) (.int .i64 7) (.agg #[(.slice (some ⟨w6.heap.size, 0, none⟩) 1 1), .int .i64 0, .int .u8 4, .bool false, .func (.func 47) #[Pt p] #[]])).run Try.prog (w6.alloc (.cells #[.int .i64 2] 64)) = .ok () w7 := r7
  replace r8 : (Instr.mapUpdate 68 (.map (some w.heap.size)) (.int .i64 8) (.agg #[(.slice (some ⟨w7.heap.size, 0, none⟩) 1 1), .int .i64 0, .int .u8 3, .bool false, .func (.func 47) #[Pt p] #[]])).run Try.prog (w7.alloc (.cells #[.int .i64 2] 64)) = .ok () w8 := r8
  replace r9 : (Instr.mapUpdate 68 (.map (some w.heap.size)) (.int .i64 9) (.agg #[(.slice none 0 0), .int .i64 0, .int .u8 5, .bool true, .func (.func 48) #[Pt p] #[]])).run Try.prog w8 = .ok () w9 := r9
  replace r10 : (Instr.mapUpdate 68 (.map (some w.heap.size)) (.int .i64 10) (.agg #[(.slice none 0 0), .int .i64 0, .int .u8 6, .bool true, .func (.func 49) #[Pt p] #[]])).run Try.prog w9 = .ok () w10 := r10
  replace r11 : (Instr.mapUpdate 68 (.map (some w.heap.size)) (.int .i64 11) (.agg #[(.slice (some ⟨w10.heap.size, 0, none⟩) 1 1), .int .i64 0, .int .u8 7, .bool false, .func (.func 47) #[Pt p] #[]])).run Try.prog (w10.alloc (.cells #[.int .i64 3] 64)) = .ok () w11 := r11
  replace r12 : (Instr.mapUpdate 68 (.map (some w.heap.size)) (.int .i64 12) (.agg #[(.slice (some ⟨w11.heap.size, 0, none⟩) 1 1), .int .i64 0, .int .u8 8, .bool false, .func (.func 47) #[Pt p] #[]])).run Try.prog (w11.alloc (.cells #[.int .i64 3] 64)) = .ok () w12 := r12
  replace r13 : (Instr.mapUpdate 68 (.map (some w.heap.size)) (.int .i64 13) (.agg #[(.slice none 0 0), .int .i64 3, .int .u8 9, .bool false, .func (.func 50) #[Pt p] #[]])).run Try.prog w12 = .ok () w13 := r13
  replace r14 : (Instr.mapUpdate 68 (.map (some w.heap.size)) (.int .i64 14) (.agg #[(.slice none 0 0), .int .i64 0, .int .u8 0, .bool true, .func (.func 51) #[Pt p] #[]])).run Try.prog w13 = .ok () w14 := r14
  replace r15 : (Instr.mapUpdate 68 (.map (some w.heap.size)) (.int .i64 15) (.agg #[(.slice (some ⟨w14.heap.size, 0, none⟩) 1 1), .int .i64 0, .int .u8 10, .bool true, .func (.func 52) #[Pt p] #[]])).run Try.prog (w14.alloc (.cells #[.int .i64 4] 64)) = .ok () w15 := r15
  replace r16 : (Instr.mapUpdate 68 (.map (some w.heap.size)) (.int .i64 16) (.agg #[(.slice (some ⟨w15.heap.size, 0, none⟩) 2 2), .int .i64 0, .int .u8 3, .bool false, .func (.func 53) #[Pt p] #[]])).run Try.prog (w15.alloc (.cells #[.int .i64 4, .int .i64 5] 64)) = .ok () w16 := r16
  replace r17 : (Instr.mapUpdate 68 (.map (some w.heap.size)) (.int .i64 17) (.agg #[(.slice (some ⟨w16.heap.size, 0, none⟩) 1 1), .int .i64 0, .int .u8 11, .bool false, .func (.func 43) #[Pt p] #[]])).run Try.prog (w16.alloc (.cells #[.int .i64 4] 64)) = .ok () w17 := r17
  go_enter Try.func27, Try.ntmps27
  simp only [List.append]
  have hmm := @run_makeMap Try.prog
  go_wp2_with fail
  go_ret
  exact ⟨_, rfl, HF.out, HM.out⟩
end Go.Proofs.Ytnclfopdgilgaaa
