/- Layer 6: a stack among the call's own blocks: a block of 128 cells and of how many there are. Plain words on worlds and lists. No condition. The contracts of package cell: One, Two, Many and Truth return what the plain functions oneV, twoV and their kin tell, for all integers. No condition. Stores into blocks of the call's own, and what a call leaves of them. No condition. Eight bytes as a number, the lowest first. Plain numbers. No condition. Texts as lists of bytes; how far a row of bytes goes on. No Go text is spoken of. Layer 14 (frame): frames as a list, the uppermost one last, and what is done to them. Plain. Layer 7 (packages scan, rhytonref07): places of a text; what is ahead of the next byte of a kind. Condition: texts of at most 2^62 bytes. Layer 7: Part and Word of package scan. Condition: texts of at most 2^62 bytes. -/
import Derived.Test.YtifnkmddinoneaaGreatDoorCBAA
set_option maxRecDepth 100000
namespace Go.Proofs.YtifnkmddinoneaaGreatDoor
open Go.RowKit
set_option linter.unusedVariables false

abbrev Pt (p : Nat) : Value := .pointer (some ⟨p, 0, none⟩)
structure Raw (w : World) (p : Nat) (C : List Int) (d : Nat) : Prop where
  len : C.length = 128
  c : ∀ i (hi : i < C.length), w.cell? ⟨p, i, none⟩ = some (.int .i64 C[i])
  dp : w.cell? ⟨p, 128, none⟩ = some (.int .i64 (d : Int))
  f : ∀ i, w.frozen? ⟨p, i, none⟩ = false
  n : d ≤ 128
  lp : p < w.heap.size
theorem Raw.mod {S : List Nat} {w w' : World} {p : Nat} {C : List Int} {d : Nat} (h : Raw w p C d) (k : Mod S w w') (hS : p ∉ S) : Raw w' p C d :=
  ⟨h.len, fun i hi => k.cell hS (h.c i hi), k.cell hS h.dp, fun i => (k.frozen hS h.lp).trans (h.f i), h.n, Nat.lt_of_lt_of_le h.lp k.size⟩
theorem Raw.far {w w' : World} {p : Nat} {C : List Int} {d : Nat} (h : Raw w p C d) (k : Mod [] w w') : Raw w' p C d := h.mod k (by simp)
theorem Raw.depth {w : World} {p : Nat} {C : List Int} {d : Nat} (h : Raw w p C d) (e : Nat) (he : e ≤ 128) : Raw (w.setCell ⟨p, 128, none⟩ (.int .i64 (e : Int))) p C e := by
  refine ⟨h.len, fun i hi => ?_, World.cell?_setCell_same _ _ _ (h := h.dp), fun i => (World.frozen?_setCell _ _ _ _).trans (h.f i), he, by simpa [World.setCell] using h.lp⟩
  have hne : (⟨p, 128, none⟩ : Addr) ≠ ⟨p, i, none⟩ := fun e => by
    have := h.len
    injection e
    omega
  rw [World.cell?_setCell_other (h := hne)]
  exact h.c i hi
theorem Raw.put {w : World} {p : Nat} {C : List Int} {d : Nat} (h : Raw w p C d) (i : Nat) (hi : i < 128) (x : Int) : Raw (w.setCell ⟨p, i, none⟩ (.int .i64 x)) p (C.set i x) d := by
  have hne : ∀ j, j ≠ i → (⟨p, i, none⟩ : Addr) ≠ ⟨p, j, none⟩ := fun j hj e => by injection e; omega
  refine ⟨by rw [List.length_set]; exact h.len, fun j hj => ?_, ?_, fun j => (World.frozen?_setCell _ _ _ _).trans (h.f j), h.n, by simpa [World.setCell] using h.lp⟩
  · have hj' : j < C.length := by rwa [List.length_set] at hj
    by_cases e : j = i
    · subst e
      rw [World.cell?_setCell_same _ _ _ (h := h.c j hj')]
      simp
    · rw [World.cell?_setCell_other (h := hne j e), h.c j hj']
      rw [List.getElem_set_ne (fun x => e x.symm)]
  · rw [World.cell?_setCell_other (h := hne 128 (by omega))]
    exact h.dp
def lay (C : List Int) (o : Nat) (l : List Int) : List Int := C.take o ++ l ++ C.drop (o + l.length)
theorem lay_len {C : List Int} {o : Nat} {l : List Int} (h : o + l.length ≤ C.length) : (lay C o l).length = C.length := by
  unfold lay; simp; omega
theorem lay_nil (C : List Int) (o : Nat) : lay C o [] = C := by simp [lay]
theorem lay_snoc {C : List Int} {o : Nat} {l : List Int} {x : Int} (h : o + l.length < C.length) : (lay C o l).set (o + l.length) x = lay C o (l ++ [x]) := by
  unfold lay
  have h1 : (C.take o ++ l).length = o + l.length := by simp; omega
  rw [List.set_append_right _ _ (by rw [h1]; exact Nat.le_refl _), h1, Nat.sub_self]
  have h2 : C.drop (o + l.length) = C[o + l.length] :: C.drop (o + l.length + 1) := by
    rw [List.drop_eq_getElem_cons h]
  rw [h2]
  simp [Nat.add_assoc]
theorem setCells_snoc (q : Nat) : ∀ (vs : List Value) (x : Value) (o : Nat) (w : World), w.setCells q o (vs ++ [x]) = (w.setCells q o vs).setCell ⟨q, o + vs.length, none⟩ x := by
  intro vs
  induction vs with
  | nil => intro x o w; rfl
  | cons v r ih => intro x o w; show ((w.setCell ⟨q, o, none⟩ v).setCells q (o + 1) (r ++ [x])) = _; rw [ih, show o + 1 + r.length = o + (v :: r).length by simp; omega]; rfl
theorem Raw.puts {w : World} {p : Nat} {C : List Int} {d : Nat} (h : Raw w p C d) (o : Nat) : ∀ (l : List Int), o + l.length ≤ 128 → Raw (w.setCells p o (cellsI l)) p (lay C o l) d := by
  suffices hk : ∀ (n : Nat) (l : List Int), l.length = n → o + l.length ≤ 128 → Raw (w.setCells p o (cellsI l)) p (lay C o l) d from fun l hl => hk l.length l rfl hl
  intro n
  induction n with
  | zero =>
    intro l hl _
    obtain rfl := List.eq_nil_of_length_eq_zero hl
    rw [lay_nil]
    exact h
  | succ n ih =>
    intro l hl ho
    have hne : l ≠ [] := fun e => by subst e; simp at hl
    have e := (List.dropLast_concat_getLast hne).symm
    generalize l.dropLast = r at e
    generalize l.getLast hne = x at e
    subst e
    simp at hl ho
    have e1 : cellsI (r ++ [x]) = cellsI r ++ [.int .i64 x] := by simp [cellsI]
    have hr := ih r hl (by omega)
    rw [e1, setCells_snoc, cellsI_len, ← lay_snoc (by rw [h.len]; omega)]
    exact hr.put (o + r.length) (by omega) x
def St (w : World) (p : Nat) (L : List Int) : Prop := (∃ C, Raw w p C L.length ∧ C.take L.length = L) ∧ ∀ x ∈ L, I64 x
theorem St.n {w : World} {p : Nat} {L : List Int} (h : St w p L) : L.length ≤ 128 := by obtain ⟨⟨C, h, _⟩, _⟩ := h; exact h.n
theorem St.lp {w : World} {p : Nat} {L : List Int} (h : St w p L) : p < w.heap.size := by obtain ⟨⟨C, h, _⟩, _⟩ := h; exact h.lp
theorem St.mod {S : List Nat} {w w' : World} {p : Nat} {L : List Int} (h : St w p L) (k : Mod S w w') (hS : p ∉ S) : St w' p L := by
  obtain ⟨⟨C, h, e⟩, hI⟩ := h
  exact ⟨⟨C, h.mod k hS, e⟩, hI⟩
theorem St.far {w w' : World} {p : Nat} {L : List Int} (h : St w p L) (k : Mod [] w w') : St w' p L := h.mod k (by simp)
theorem take_get {C L : List Int} {n : Nat} (e : C.take n = L) (i : Nat) (h : i < L.length) (hc : i < C.length) : C[i] = L[i] := by
  subst e
  simp
theorem St.cell {w : World} {p : Nat} {L : List Int} (h : St w p L) (i : Nat) (hi : i < L.length) : w.cell? ⟨p, i, none⟩ = some (.int .i64 L[i]) := by
  obtain ⟨⟨C, h, e⟩, _⟩ := h
  have := h.len
  have := h.n
  rw [h.c i (by omega), take_get e i hi (by omega)]
theorem St.depth {w : World} {p : Nat} {L : List Int} (h : St w p L) : w.cell? ⟨p, 128, none⟩ = some (.int .i64 (L.length : Int)) := by obtain ⟨⟨C, h, _⟩, _⟩ := h; exact h.dp
theorem St.free {w : World} {p : Nat} {L : List Int} (h : St w p L) (i : Nat) : w.frozen? ⟨p, i, none⟩ = false := by obtain ⟨⟨C, h, _⟩, _⟩ := h; exact h.f i
theorem Mod.one {S : List Nat} {a b : World} {p : Nat} (h : Mod S a b) (hp : p ∈ S ∨ a.heap.size ≤ p) (i : Nat) (v : Value) : Mod S a (b.setCell ⟨p, i, none⟩ v) := h.set (x := ⟨p, i, none⟩) hp v
theorem lay_take {C L l : List Int} (e : C.take L.length = L) (h : L.length + l.length ≤ C.length) : (lay C L.length l).take (L.length + l.length) = L ++ l := by
  unfold lay
  rw [e, ← List.length_append, List.take_left]
def pa (a : Nat) : Nat := if a = 128 then 0 else a
theorem slice128 (p a b : Nat) (hab : a ≤ b) (hb : b ≤ 128) (W : World) : (Instr.sliceAt 99 (.pointer (some ⟨p, 0, none⟩)) (some (.int .i64 (a : Int))) (some (.int .i64 (b : Int))) none).run Tryz.prog W = .ok (.slice (some ⟨p, pa a, none⟩) (b - a) (128 - a)) W := by
  have hl : Tryz.prog.arrayLen 99 = 128 := by kernel_rfl
  have he : Tryz.prog.elem 99 = 33 := by kernel_rfl
  rw [run_sliceAt_array_lh (P := Tryz.prog) W 99 ⟨p, 0, none⟩ (by kernel_rfl) .i64 .i64 (a : Int) (b : Int) (by omega) (by omega) (by rw [hl]; omega), he, Tryz.sizeOf33]
  simp only [Result.andThen, slicedAt, hl, Int.toNat_natCast, Addr.add]
  unfold pa
  by_cases h1 : a = 128
  · rw [if_pos h1.symm, if_pos h1]
  · rw [if_neg (fun e => h1 e.symm), if_neg h1, Nat.zero_add, Nat.mul_one]
    by_cases h0 : a = 0
    · subst h0; rfl
    · rw [if_neg h0]
theorem slice128u (p b : Nat) (hb : b ≤ 128) (W : World) : (Instr.sliceAt 99 (.pointer (some ⟨p, 0, none⟩)) none (some (.int .i64 (b : Int))) none).run Tryz.prog W = .ok (.slice (some ⟨p, 0, none⟩) b 128) W := by
  have hl : Tryz.prog.arrayLen 99 = 128 := by kernel_rfl
  have he : Tryz.prog.elem 99 = 33 := by kernel_rfl
  rw [run_sliceAt_array_h (P := Tryz.prog) W 99 ⟨p, 0, none⟩ (by kernel_rfl) .i64 (b : Int) (by omega) (by rw [hl]; omega), he, Tryz.sizeOf33]
  simp [Result.andThen, slicedAt, hl, Addr.add]
theorem slice128d (p a : Nat) (ha : a ≤ 128) (W : World) : (Instr.sliceAt 99 (.pointer (some ⟨p, 0, none⟩)) (some (.int .i64 (a : Int))) none none).run Tryz.prog W = .ok (.slice (some ⟨p, pa a, none⟩) (128 - a) (128 - a)) W := by
  have hl : Tryz.prog.arrayLen 99 = 128 := by kernel_rfl
  have he : Tryz.prog.elem 99 = 33 := by kernel_rfl
  rw [run_sliceAt_array_l (P := Tryz.prog) W 99 ⟨p, 0, none⟩ (by kernel_rfl) .i64 (a : Int) (by omega) (by rw [hl]; omega), he, Tryz.sizeOf33]
  simp only [Result.andThen, slicedAt, hl, Int.toNat_natCast, Addr.add]
  unfold pa
  by_cases h1 : a = 128
  · rw [if_pos h1.symm, if_pos h1]
  · rw [if_neg (fun e => h1 e.symm), if_neg h1, Nat.zero_add, Nat.mul_one]
    by_cases h0 : a = 0
    · subst h0; rfl
    · rw [if_neg h0]
end Go.Proofs.YtifnkmddinoneaaGreatDoor
namespace Go.Proofs.YtifnkmddinoneaaGreatDoor
open Go.RowKit
set_option linter.unusedVariables false

def truth (b : Bool) : Int := if b then -1 else 0
def quo (a b : Int) : Int := if (wrap64 (wrap64 (a.tdiv b) * b) != a && (decide (a < 0) != decide (b < 0))) = true then wrap64 (wrap64 (a.tdiv b) - 1) else wrap64 (a.tdiv b)
def rem (a b : Int) : Int := if (a.tmod b != 0 && (decide (a.tmod b < 0) != decide (b < 0))) = true then wrap64 (a.tmod b + b) else a.tmod b
def shl (a b : Int) : Int := wrap64 (a * 2 ^ min (IntKind.u64.wrap b).toNat 64)
def shr (a b : Int) : Int := wrap64 (IntKind.u64.wrap a / 2 ^ min (IntKind.u64.wrap b).toNat 64)
def lower (a b : Int) : Int := if a ≤ b then a else b
def upper (a b : Int) : Int := if a ≤ b then b else a
def twoV (op a b : Int) : Int := if b = 0 ∧ (op = 14 ∨ op = 15) then 0 else if op = 11 then wrap64 (a + b) else if op = 12 then wrap64 (a - b) else if op = 13 then wrap64 (a * b) else if op = 14 then quo a b else if op = 15 then rem a b else if op = 16 then bits .and .i64 a b else if op = 17 then bits .or .i64 a b else if op = 18 then bits .xor .i64 a b else if op = 19 then shl a b else if op = 20 then shr a b else if op = 21 then truth (a == b) else if op = 22 then truth (a != b) else if op = 23 then truth (decide (a < b)) else if op = 24 then truth (decide (b < a)) else if op = 25 then truth (decide (IntKind.u64.wrap a < IntKind.u64.wrap b)) else if op = 26 then lower a b else if op = 27 then upper a b else 0
def twoE (op b : Int) : Int := if op < 11 ∨ 27 < op then 1 else if b = 0 ∧ (op = 14 ∨ op = 15) then -10 else 0
theorem truth_calls (b : Bool) (w : World) : Calls Tryz.prog 263 #[.bool b] w fun e w' => e = .returned (.int .i64 (truth b)) ∧ w = w' := by
  cases b <;> (go_enter Tryz.func263, Tryz.ntmps263; go_wp2; go_ret; exact ⟨rfl, rfl⟩)
set_option maxRecDepth 100000 in
theorem leaf11 (a b : Int) (w : World) : Calls Tryz.prog 305 #[.int .i64 a, .int .i64 b] w fun e w' => e = .returned (.int .i64 (wrap64 (a + b))) ∧ w = w' := by
  go_enter Tryz.func305, Tryz.ntmps305
  go_wp2
  go_ret
  exact ⟨rfl, rfl⟩
set_option maxRecDepth 100000 in
theorem leaf12 (a b : Int) (w : World) : Calls Tryz.prog 306 #[.int .i64 a, .int .i64 b] w fun e w' => e = .returned (.int .i64 (wrap64 (a - b))) ∧ w = w' := by
  go_enter Tryz.func306, Tryz.ntmps306
  go_wp2
  go_ret
  exact ⟨rfl, rfl⟩
set_option maxRecDepth 100000 in
theorem leaf13 (a b : Int) (w : World) : Calls Tryz.prog 307 #[.int .i64 a, .int .i64 b] w fun e w' => e = .returned (.int .i64 (wrap64 (a * b))) ∧ w = w' := by
  go_enter Tryz.func307, Tryz.ntmps307
  go_wp2
  go_ret
  exact ⟨rfl, rfl⟩
set_option maxRecDepth 100000 in
theorem leaf14 (a b : Int) (hb : (b == 0) = false) (w : World) : Calls Tryz.prog 308 #[.int .i64 a, .int .i64 b] w fun e w' => e = .returned (.int .i64 (quo a b)) ∧ w = w' := by
  have hb' : ¬ b = 0 := by simpa using hb
  go_enter Tryz.func308, Tryz.ntmps308
  go_wp2
  all_goals first | (go_ret; refine ⟨?_, rfl⟩; simp_all [quo]; done) | (exfalso; omega)
set_option maxRecDepth 100000 in
theorem leaf15 (a b : Int) (hb : (b == 0) = false) (w : World) : Calls Tryz.prog 309 #[.int .i64 a, .int .i64 b] w fun e w' => e = .returned (.int .i64 (rem a b)) ∧ w = w' := by
  have hb' : ¬ b = 0 := by simpa using hb
  go_enter Tryz.func309, Tryz.ntmps309
  go_wp2
  all_goals first | (go_ret; refine ⟨?_, rfl⟩; simp_all [rem]; done) | (exfalso; omega)
set_option maxRecDepth 100000 in
theorem leaf16 (a b : Int) (w : World) : Calls Tryz.prog 310 #[.int .i64 a, .int .i64 b] w fun e w' => e = .returned (.int .i64 (bits .and .i64 a b)) ∧ w = w' := by
  go_enter Tryz.func310, Tryz.ntmps310
  go_wp2
  go_ret
  exact ⟨rfl, rfl⟩
set_option maxRecDepth 100000 in
theorem leaf17 (a b : Int) (w : World) : Calls Tryz.prog 311 #[.int .i64 a, .int .i64 b] w fun e w' => e = .returned (.int .i64 (bits .or .i64 a b)) ∧ w = w' := by
  go_enter Tryz.func311, Tryz.ntmps311
  go_wp2
  go_ret
  exact ⟨rfl, rfl⟩
set_option maxRecDepth 100000 in
theorem leaf18 (a b : Int) (w : World) : Calls Tryz.prog 312 #[.int .i64 a, .int .i64 b] w fun e w' => e = .returned (.int .i64 (bits .xor .i64 a b)) ∧ w = w' := by
  go_enter Tryz.func312, Tryz.ntmps312
  go_wp2
  go_ret
  exact ⟨rfl, rfl⟩
set_option maxRecDepth 100000 in
theorem leaf19 (a b : Int) (w : World) : Calls Tryz.prog 313 #[.int .i64 a, .int .i64 b] w fun e w' => e = .returned (.int .i64 (shl a b)) ∧ w = w' := by
  go_enter Tryz.func313, Tryz.ntmps313
  go_wp2
  go_ret
  exact ⟨rfl, rfl⟩
set_option maxRecDepth 100000 in
theorem leaf20 (a b : Int) (w : World) : Calls Tryz.prog 314 #[.int .i64 a, .int .i64 b] w fun e w' => e = .returned (.int .i64 (shr a b)) ∧ w = w' := by
  go_enter Tryz.func314, Tryz.ntmps314
  go_wp2
  go_ret
  exact ⟨rfl, rfl⟩
set_option maxRecDepth 100000 in
theorem leaf21 (a b : Int) (w : World) : Calls Tryz.prog 315 #[.int .i64 a, .int .i64 b] w fun e w' => e = .returned (.int .i64 (truth (a == b))) ∧ w = w' := by
  go_enter Tryz.func315, Tryz.ntmps315
  go_wp2_with (go_at_call 263; refine (truth_calls _ _).mono ?_; rintro e w' ⟨rfl, rfl⟩)
  go_ret
  exact ⟨rfl, rfl⟩
set_option maxRecDepth 100000 in
theorem leaf22 (a b : Int) (w : World) : Calls Tryz.prog 316 #[.int .i64 a, .int .i64 b] w fun e w' => e = .returned (.int .i64 (truth (a != b))) ∧ w = w' := by
  go_enter Tryz.func316, Tryz.ntmps316
  go_wp2_with (go_at_call 263; refine (truth_calls _ _).mono ?_; rintro e w' ⟨rfl, rfl⟩)
  go_ret
  exact ⟨rfl, rfl⟩
set_option maxRecDepth 100000 in
theorem leaf23 (a b : Int) (w : World) : Calls Tryz.prog 317 #[.int .i64 a, .int .i64 b] w fun e w' => e = .returned (.int .i64 (truth (decide (a < b)))) ∧ w = w' := by
  go_enter Tryz.func317, Tryz.ntmps317
  go_wp2_with (go_at_call 263; refine (truth_calls _ _).mono ?_; rintro e w' ⟨rfl, rfl⟩)
  go_ret
  exact ⟨rfl, rfl⟩
set_option maxRecDepth 100000 in
theorem leaf24 (a b : Int) (w : World) : Calls Tryz.prog 318 #[.int .i64 a, .int .i64 b] w fun e w' => e = .returned (.int .i64 (truth (decide (b < a)))) ∧ w = w' := by
  go_enter Tryz.func318, Tryz.ntmps318
  go_wp2_with (go_at_call 263; refine (truth_calls _ _).mono ?_; rintro e w' ⟨rfl, rfl⟩)
  go_ret
  exact ⟨rfl, rfl⟩
set_option maxRecDepth 100000 in
theorem leaf25 (a b : Int) (w : World) : Calls Tryz.prog 319 #[.int .i64 a, .int .i64 b] w fun e w' => e = .returned (.int .i64 (truth (decide (IntKind.u64.wrap a < IntKind.u64.wrap b)))) ∧ w = w' := by
  go_enter Tryz.func319, Tryz.ntmps319
  go_wp2_with (go_at_call 263; refine (truth_calls _ _).mono ?_; rintro e w' ⟨rfl, rfl⟩)
  go_ret
  exact ⟨rfl, rfl⟩
set_option maxRecDepth 100000 in
theorem leaf26 (a b : Int) (w : World) : Calls Tryz.prog 320 #[.int .i64 a, .int .i64 b] w fun e w' => e = .returned (.int .i64 (lower a b)) ∧ w = w' := by
  go_enter Tryz.func320, Tryz.ntmps320
  go_wp2
  all_goals (go_ret; refine ⟨?_, rfl⟩; unfold lower; split <;> first | rfl | (exfalso; omega) | (obtain rfl : a = b := (by omega); rfl))
set_option maxRecDepth 100000 in
theorem leaf27 (a b : Int) (w : World) : Calls Tryz.prog 321 #[.int .i64 a, .int .i64 b] w fun e w' => e = .returned (.int .i64 (upper a b)) ∧ w = w' := by
  go_enter Tryz.func321, Tryz.ntmps321
  go_wp2
  all_goals (go_ret; refine ⟨?_, rfl⟩; unfold upper; split <;> first | rfl | (exfalso; omega) | (obtain rfl : a = b := (by omega); rfl))
theorem en11 (xs : Array Value) (w : World) : (callFunc 305 xs).run Tryz.prog w = .ok (.enter 305 xs) w := by kernel_rfl
theorem en12 (xs : Array Value) (w : World) : (callFunc 306 xs).run Tryz.prog w = .ok (.enter 306 xs) w := by kernel_rfl
theorem en13 (xs : Array Value) (w : World) : (callFunc 307 xs).run Tryz.prog w = .ok (.enter 307 xs) w := by kernel_rfl
theorem en14 (xs : Array Value) (w : World) : (callFunc 308 xs).run Tryz.prog w = .ok (.enter 308 xs) w := by kernel_rfl
theorem en15 (xs : Array Value) (w : World) : (callFunc 309 xs).run Tryz.prog w = .ok (.enter 309 xs) w := by kernel_rfl
theorem en16 (xs : Array Value) (w : World) : (callFunc 310 xs).run Tryz.prog w = .ok (.enter 310 xs) w := by kernel_rfl
theorem en17 (xs : Array Value) (w : World) : (callFunc 311 xs).run Tryz.prog w = .ok (.enter 311 xs) w := by kernel_rfl
theorem en18 (xs : Array Value) (w : World) : (callFunc 312 xs).run Tryz.prog w = .ok (.enter 312 xs) w := by kernel_rfl
theorem en19 (xs : Array Value) (w : World) : (callFunc 313 xs).run Tryz.prog w = .ok (.enter 313 xs) w := by kernel_rfl
theorem en20 (xs : Array Value) (w : World) : (callFunc 314 xs).run Tryz.prog w = .ok (.enter 314 xs) w := by kernel_rfl
theorem en21 (xs : Array Value) (w : World) : (callFunc 315 xs).run Tryz.prog w = .ok (.enter 315 xs) w := by kernel_rfl
theorem en22 (xs : Array Value) (w : World) : (callFunc 316 xs).run Tryz.prog w = .ok (.enter 316 xs) w := by kernel_rfl
theorem en23 (xs : Array Value) (w : World) : (callFunc 317 xs).run Tryz.prog w = .ok (.enter 317 xs) w := by kernel_rfl
theorem en24 (xs : Array Value) (w : World) : (callFunc 318 xs).run Tryz.prog w = .ok (.enter 318 xs) w := by kernel_rfl
theorem en25 (xs : Array Value) (w : World) : (callFunc 319 xs).run Tryz.prog w = .ok (.enter 319 xs) w := by kernel_rfl
theorem en26 (xs : Array Value) (w : World) : (callFunc 320 xs).run Tryz.prog w = .ok (.enter 320 xs) w := by kernel_rfl
theorem en27 (xs : Array Value) (w : World) : (callFunc 321 xs).run Tryz.prog w = .ok (.enter 321 xs) w := by kernel_rfl
def entries : Array MapEntry := #[⟨.int .i64 11, .func (.func 305) #[] #[], 0⟩, ⟨.int .i64 12, .func (.func 306) #[] #[], 1⟩, ⟨.int .i64 13, .func (.func 307) #[] #[], 2⟩, ⟨.int .i64 14, .func (.func 308) #[] #[], 3⟩, ⟨.int .i64 15, .func (.func 309) #[] #[], 4⟩, ⟨.int .i64 16, .func (.func 310) #[] #[], 5⟩, ⟨.int .i64 17, .func (.func 311) #[] #[], 6⟩, ⟨.int .i64 18, .func (.func 312) #[] #[], 7⟩, ⟨.int .i64 19, .func (.func 313) #[] #[], 8⟩, ⟨.int .i64 20, .func (.func 314) #[] #[], 9⟩, ⟨.int .i64 21, .func (.func 315) #[] #[], 10⟩, ⟨.int .i64 22, .func (.func 316) #[] #[], 11⟩, ⟨.int .i64 23, .func (.func 317) #[] #[], 12⟩, ⟨.int .i64 24, .func (.func 318) #[] #[], 13⟩, ⟨.int .i64 25, .func (.func 319) #[] #[], 14⟩, ⟨.int .i64 26, .func (.func 320) #[] #[], 15⟩, ⟨.int .i64 27, .func (.func 321) #[] #[], 16⟩]
set_option maxRecDepth 100000 in
theorem ops_made (w : World) : Calls Tryz.prog 265 #[] w fun e w' => e = .returned (.map (some w.heap.size)) ∧ w.alloc (.map entries 17) = w' := by
  have hmm := @run_makeMap Tryz.prog
  go_enter Tryz.func265, Tryz.ntmps265
  go_wp2
  repeat (rw [put_new (P := Tryz.prog) Tryz.underlying233 Tryz.underlying3 w _ _ _ _ (by rfl)]; go_wp2)
  go_ret
  exact ⟨rfl, rfl⟩
set_option maxRecDepth 100000 in
theorem two_viaA (op a b : Int) (i f : Nat) (r : Int) (hf : Instr.findNow (.int .i64) (.int .i64 op) entries.toList 0 = some (some (i, .func (.func f) #[] #[])))
    (hc : ∀ w, Calls Tryz.prog f #[.int .i64 a, .int .i64 b] w fun e w' => e = .returned (.int .i64 r) ∧ w = w') (hb : (b == 0) = false) (hen : ∀ (xs : Array Value) (w : World), (callFunc f xs).run Tryz.prog w = .ok (.enter f xs) w) (w : World) :
    Calls Tryz.prog 133 #[.int .i64 op, .int .i64 a, .int .i64 b] w fun e w' => e = .returned (.tuple #[.int .i64 r, .int .i64 0]) ∧ w.alloc (.map entries 17) = w' := by
  have hl := get_found (P := Tryz.prog) Tryz.underlying233 Tryz.underlying3 (w := w.alloc (.map entries 17)) (b := w.heap.size) (es := entries) (c := 17) (MapKept.heap_alloc w _).1 hf
  have HC := Lib.hid hc
  clear hc hf
  go_enter Tryz.func133, Tryz.ntmps133
  go_wp2_with (first | (go_at_call 265; refine (ops_made _).mono ?_; rintro e w' ⟨rfl, rfl⟩))
  refine (HC.out _).mono ?_
  rintro e w' ⟨rfl, rfl⟩
  go_wp2_with fail
  go_ret2
  exact ⟨rfl, rfl⟩
set_option maxRecDepth 100000 in
theorem two_viaB (op a : Int) (i f : Nat) (r : Int) (hf : Instr.findNow (.int .i64) (.int .i64 op) entries.toList 0 = some (some (i, .func (.func f) #[] #[])))
    (hc : ∀ w, Calls Tryz.prog f #[.int .i64 a, .int .i64 0] w fun e w' => e = .returned (.int .i64 r) ∧ w = w') (h14 : (op == 14) = false) (h15 : (op == 15) = false) (hen : ∀ (xs : Array Value) (w : World), (callFunc f xs).run Tryz.prog w = .ok (.enter f xs) w) (w : World) :
    Calls Tryz.prog 133 #[.int .i64 op, .int .i64 a, .int .i64 0] w fun e w' => e = .returned (.tuple #[.int .i64 r, .int .i64 0]) ∧ w.alloc (.map entries 17) = w' := by
  have hl := get_found (P := Tryz.prog) Tryz.underlying233 Tryz.underlying3 (w := w.alloc (.map entries 17)) (b := w.heap.size) (es := entries) (c := 17) (MapKept.heap_alloc w _).1 hf
  have HC := Lib.hid hc
  clear hc hf
  go_enter Tryz.func133, Tryz.ntmps133
  go_wp2_with (first | (go_at_call 265; refine (ops_made _).mono ?_; rintro e w' ⟨rfl, rfl⟩))
  refine (HC.out _).mono ?_
  rintro e w' ⟨rfl, rfl⟩
  go_wp2_with fail
  go_ret2
  exact ⟨rfl, rfl⟩
set_option maxRecDepth 100000 in
theorem two_zero (op a : Int) (i f : Nat) (hf : Instr.findNow (.int .i64) (.int .i64 op) entries.toList 0 = some (some (i, .func (.func f) #[] #[]))) (ho : op = 14 ∨ op = 15) (w : World) :
    Calls Tryz.prog 133 #[.int .i64 op, .int .i64 a, .int .i64 0] w fun e w' => e = .returned (.tuple #[.int .i64 0, .int .i64 (-10)]) ∧ w.alloc (.map entries 17) = w' := by
  have hl := get_found (P := Tryz.prog) Tryz.underlying233 Tryz.underlying3 (w := w.alloc (.map entries 17)) (b := w.heap.size) (es := entries) (c := 17) (MapKept.heap_alloc w _).1 hf
  clear hf
  rcases ho with rfl | rfl
  all_goals
    go_enter Tryz.func133, Tryz.ntmps133
    go_wp2_with (first | (go_at_call 265; refine (ops_made _).mono ?_; rintro e w' ⟨rfl, rfl⟩))
    go_ret2
    exact ⟨rfl, rfl⟩
theorem zero_fn (w : World) : (zeroValue 231).run Tryz.prog w = .ok .nilFunc w := by kernel_rfl
set_option maxRecDepth 100000 in
theorem two_none (op a b : Int) (hf : Instr.findNow (.int .i64) (.int .i64 op) entries.toList 0 = some none) (w : World) :
    Calls Tryz.prog 133 #[.int .i64 op, .int .i64 a, .int .i64 b] w fun e w' => e = .returned (.tuple #[.int .i64 0, .int .i64 1]) ∧ w.alloc (.map entries 17) = w' := by
  have hl := get_none (P := Tryz.prog) Tryz.underlying233 Tryz.underlying3 (w := w.alloc (.map entries 17)) (b := w.heap.size) (es := entries) (c := 17) (MapKept.heap_alloc w _).1 (zero_fn _) hf
  clear hf
  go_enter Tryz.func133, Tryz.ntmps133
  go_wp2_with (first | (go_at_call 265; refine (ops_made _).mono ?_; rintro e w' ⟨rfl, rfl⟩))
  go_ret2
  exact ⟨rfl, rfl⟩
theorem find_none (op : Int) (h : op < 11 ∨ 27 < op) : Instr.findNow (.int .i64) (.int .i64 op) entries.toList 0 = some none := by
  have e : ∀ k : Int, 11 ≤ k → k ≤ 27 → (op == k) = false := fun k _ _ => by simp; omega
  simp [entries, Instr.findNow, Instr.sameNow, e]
theorem two_calls (op a b : Int) (w : World) :
    Calls Tryz.prog 133 #[.int .i64 op, .int .i64 a, .int .i64 b] w fun e w' => e = .returned (.tuple #[.int .i64 (twoV op a b), .int .i64 (twoE op b)]) ∧ w.alloc (.map entries 17) = w' := by
  by_cases h : op < 11 ∨ 27 < op
  · have e1 : twoV op a b = 0 := by unfold twoV; repeat (rw [if_neg (by omega)])
    have e2 : twoE op b = 1 := by unfold twoE; rw [if_pos h]
    rw [e1, e2]
    exact two_none op a b (find_none op h) w
  · have h' : op = 11 ∨ op = 12 ∨ op = 13 ∨ op = 14 ∨ op = 15 ∨ op = 16 ∨ op = 17 ∨ op = 18 ∨ op = 19 ∨ op = 20 ∨ op = 21 ∨ op = 22 ∨ op = 23 ∨ op = 24 ∨ op = 25 ∨ op = 26 ∨ op = 27 := by omega
    rcases h' with rfl | rfl | rfl | rfl | rfl | rfl | rfl | rfl | rfl | rfl | rfl | rfl | rfl | rfl | rfl | rfl | rfl
    · have e1 : twoV 11 a b = wrap64 (a + b) := by simp [twoV]
      have e2 : twoE 11 b = 0 := by simp [twoE]
      rw [e1, e2]
      by_cases hb : b = 0
      · subst hb
        exact two_viaB 11 a 0 _ _ rfl (leaf11 a 0) rfl rfl en11 w
      · have hb' : (b == 0) = false := by simpa using hb
        exact two_viaA 11 a b 0 _ _ rfl (leaf11 a b) hb' en11 w
    · have e1 : twoV 12 a b = wrap64 (a - b) := by simp [twoV]
      have e2 : twoE 12 b = 0 := by simp [twoE]
      rw [e1, e2]
      by_cases hb : b = 0
      · subst hb
        exact two_viaB 12 a 1 _ _ rfl (leaf12 a 0) rfl rfl en12 w
      · have hb' : (b == 0) = false := by simpa using hb
        exact two_viaA 12 a b 1 _ _ rfl (leaf12 a b) hb' en12 w
    · have e1 : twoV 13 a b = wrap64 (a * b) := by simp [twoV]
      have e2 : twoE 13 b = 0 := by simp [twoE]
      rw [e1, e2]
      by_cases hb : b = 0
      · subst hb
        exact two_viaB 13 a 2 _ _ rfl (leaf13 a 0) rfl rfl en13 w
      · have hb' : (b == 0) = false := by simpa using hb
        exact two_viaA 13 a b 2 _ _ rfl (leaf13 a b) hb' en13 w
    · by_cases hb : b = 0
      · subst hb
        exact two_zero 14 a 3 _ rfl (by decide) w
      · have hb' : (b == 0) = false := by simpa using hb
        have e1 : twoV 14 a b = quo a b := by simp [twoV, hb]
        have e2 : twoE 14 b = 0 := by simp [twoE, hb]
        rw [e1, e2]
        exact two_viaA 14 a b 3 _ _ rfl (leaf14 a b hb') hb' en14 w
    · by_cases hb : b = 0
      · subst hb
        exact two_zero 15 a 4 _ rfl (by decide) w
      · have hb' : (b == 0) = false := by simpa using hb
        have e1 : twoV 15 a b = rem a b := by simp [twoV, hb]
        have e2 : twoE 15 b = 0 := by simp [twoE, hb]
        rw [e1, e2]
        exact two_viaA 15 a b 4 _ _ rfl (leaf15 a b hb') hb' en15 w
    · have e1 : twoV 16 a b = bits .and .i64 a b := by simp [twoV]
      have e2 : twoE 16 b = 0 := by simp [twoE]
      rw [e1, e2]
      by_cases hb : b = 0
      · subst hb
        exact two_viaB 16 a 5 _ _ rfl (leaf16 a 0) rfl rfl en16 w
      · have hb' : (b == 0) = false := by simpa using hb
        exact two_viaA 16 a b 5 _ _ rfl (leaf16 a b) hb' en16 w
    · have e1 : twoV 17 a b = bits .or .i64 a b := by simp [twoV]
      have e2 : twoE 17 b = 0 := by simp [twoE]
      rw [e1, e2]
      by_cases hb : b = 0
      · subst hb
        exact two_viaB 17 a 6 _ _ rfl (leaf17 a 0) rfl rfl en17 w
      · have hb' : (b == 0) = false := by simpa using hb
        exact two_viaA 17 a b 6 _ _ rfl (leaf17 a b) hb' en17 w
    · have e1 : twoV 18 a b = bits .xor .i64 a b := by simp [twoV]
      have e2 : twoE 18 b = 0 := by simp [twoE]
      rw [e1, e2]
      by_cases hb : b = 0
      · subst hb
        exact two_viaB 18 a 7 _ _ rfl (leaf18 a 0) rfl rfl en18 w
      · have hb' : (b == 0) = false := by simpa using hb
        exact two_viaA 18 a b 7 _ _ rfl (leaf18 a b) hb' en18 w
    · have e1 : twoV 19 a b = shl a b := by simp [twoV]
      have e2 : twoE 19 b = 0 := by simp [twoE]
      rw [e1, e2]
      by_cases hb : b = 0
      · subst hb
        exact two_viaB 19 a 8 _ _ rfl (leaf19 a 0) rfl rfl en19 w
      · have hb' : (b == 0) = false := by simpa using hb
        exact two_viaA 19 a b 8 _ _ rfl (leaf19 a b) hb' en19 w
    · have e1 : twoV 20 a b = shr a b := by simp [twoV]
      have e2 : twoE 20 b = 0 := by simp [twoE]
      rw [e1, e2]
      by_cases hb : b = 0
      · subst hb
        exact two_viaB 20 a 9 _ _ rfl (leaf20 a 0) rfl rfl en20 w
      · have hb' : (b == 0) = false := by simpa using hb
        exact two_viaA 20 a b 9 _ _ rfl (leaf20 a b) hb' en20 w
    · have e1 : twoV 21 a b = truth (a == b) := by simp [twoV]
      have e2 : twoE 21 b = 0 := by simp [twoE]
      rw [e1, e2]
      by_cases hb : b = 0
      · subst hb
        exact two_viaB 21 a 10 _ _ rfl (leaf21 a 0) rfl rfl en21 w
      · have hb' : (b == 0) = false := by simpa using hb
        exact two_viaA 21 a b 10 _ _ rfl (leaf21 a b) hb' en21 w
    · have e1 : twoV 22 a b = truth (a != b) := by simp [twoV]
      have e2 : twoE 22 b = 0 := by simp [twoE]
      rw [e1, e2]
      by_cases hb : b = 0
      · subst hb
        exact two_viaB 22 a 11 _ _ rfl (leaf22 a 0) rfl rfl en22 w
      · have hb' : (b == 0) = false := by simpa using hb
        exact two_viaA 22 a b 11 _ _ rfl (leaf22 a b) hb' en22 w
    · have e1 : twoV 23 a b = truth (decide (a < b)) := by simp [twoV]
      have e2 : twoE 23 b = 0 := by simp [twoE]
      rw [e1, e2]
      by_cases hb : b = 0
      · subst hb
        exact two_viaB 23 a 12 _ _ rfl (leaf23 a 0) rfl rfl en23 w
      · have hb' : (b == 0) = false := by simpa using hb
        exact two_viaA 23 a b 12 _ _ rfl (leaf23 a b) hb' en23 w
    · have e1 : twoV 24 a b = truth (decide (b < a)) := by simp [twoV]
      have e2 : twoE 24 b = 0 := by simp [twoE]
      rw [e1, e2]
      by_cases hb : b = 0
      · subst hb
        exact two_viaB 24 a 13 _ _ rfl (leaf24 a 0) rfl rfl en24 w
      · have hb' : (b == 0) = false := by simpa using hb
        exact two_viaA 24 a b 13 _ _ rfl (leaf24 a b) hb' en24 w
    · have e1 : twoV 25 a b = truth (decide (IntKind.u64.wrap a < IntKind.u64.wrap b)) := by simp [twoV]
      have e2 : twoE 25 b = 0 := by simp [twoE]
      rw [e1, e2]
      by_cases hb : b = 0
      · subst hb
        exact two_viaB 25 a 14 _ _ rfl (leaf25 a 0) rfl rfl en25 w
      · have hb' : (b == 0) = false := by simpa using hb
        exact two_viaA 25 a b 14 _ _ rfl (leaf25 a b) hb' en25 w
    · have e1 : twoV 26 a b = lower a b := by simp [twoV]
      have e2 : twoE 26 b = 0 := by simp [twoE]
      rw [e1, e2]
      by_cases hb : b = 0
      · subst hb
        exact two_viaB 26 a 15 _ _ rfl (leaf26 a 0) rfl rfl en26 w
      · have hb' : (b == 0) = false := by simpa using hb
        exact two_viaA 26 a b 15 _ _ rfl (leaf26 a b) hb' en26 w
    · have e1 : twoV 27 a b = upper a b := by simp [twoV]
      have e2 : twoE 27 b = 0 := by simp [twoE]
      rw [e1, e2]
      by_cases hb : b = 0
      · subst hb
        exact two_viaB 27 a 16 _ _ rfl (leaf27 a 0) rfl rfl en27 w
      · have hb' : (b == 0) = false := by simpa using hb
        exact two_viaA 27 a b 16 _ _ rfl (leaf27 a b) hb' en27 w
theorem many_calls (op : Int) (w : World) : Calls Tryz.prog 127 #[.int .i64 op] w fun e w' => e = .returned (.int .i64 (if 1 ≤ op ∧ op ≤ 10 then 1 else if 11 ≤ op ∧ op ≤ 27 then 2 else 0)) ∧ w = w' := by
  by_cases h1 : 1 ≤ op ∧ op ≤ 10
  · rw [if_pos h1]
    obtain ⟨h1, h2⟩ := h1
    go_enter Tryz.func127, Tryz.ntmps127
    go_wp2
    go_ret
    exact ⟨rfl, rfl⟩
  · rw [if_neg h1]
    by_cases h2 : 11 ≤ op ∧ op ≤ 27
    · rw [if_pos h2]
      obtain ⟨h2, h3⟩ := h2
      clear h1
      go_enter Tryz.func127, Tryz.ntmps127
      go_wp2
      go_ret
      exact ⟨rfl, rfl⟩
    · rw [if_neg h2]
      have h3 : op < 1 ∨ 27 < op := by omega
      clear h1 h2
      rcases h3 with h3 | h3
      all_goals
        go_enter Tryz.func127, Tryz.ntmps127
        go_wp2
        go_ret
        exact ⟨rfl, rfl⟩
theorem xor_ones (a : Int) : bits .xor .i64 (-1) a = wrap64 (-1 - a) := by
  have e : BitVec.ofInt 64 (-1) = BitVec.allOnes 64 := by decide
  have h : bits .xor .i64 (-1) a = IntKind.i64.wrap ((BitVec.ofInt 64 (-1) ^^^ BitVec.ofInt 64 a).toNat : Int) := rfl
  rw [h, e, BitVec.allOnes_xor, BitVec.toNat_not, BitVec.toNat_ofInt]
  unfold wrap64
  simp [IntKind.wrap, IntKind.bits, IntKind.signed]
  omega
def oneV (op a : Int) : Int := if op = 1 then wrap64 (-a) else if op = 2 then upper a (wrap64 (-a)) else if op = 3 then wrap64 (-1 - a) else if op = 4 then wrap64 (a + 1) else if op = 5 then wrap64 (a - 1) else if op = 6 then wrap64 (2 * a) else if op = 7 then a / 2 else if op = 8 then truth (a == 0) else if op = 9 then truth (decide (a < 0)) else if op = 10 then truth (a != 0) else 0
def oneE (op : Int) : Int := if 1 ≤ op ∧ op ≤ 10 then 0 else 1
set_option maxHeartbeats 1000000 in
set_option maxRecDepth 100000 in
theorem one_calls (op a : Int) (w : World) : Calls Tryz.prog 130 #[.int .i64 op, .int .i64 a] w fun e w' => e = .returned (.tuple #[.int .i64 (oneV op a), .int .i64 (oneE op)]) ∧ w = w' := by
  go_enter Tryz.func130, Tryz.ntmps130
  go_wp2_with (go_at_call 263; refine (truth_calls _ _).mono ?_; rintro e w' ⟨rfl, rfl⟩)
  all_goals (go_ret2; refine ⟨?_, rfl⟩)
  all_goals first | (simp_all [oneV, oneE]; done) | (simp_all [oneV, oneE, upper]; done) | (simp_all [oneV, oneE, upper]; omega) | (simp_all [oneV, oneE]; exact xor_ones a)
end Go.Proofs.YtifnkmddinoneaaGreatDoor
namespace Go.Proofs.YtifnkmddinoneaaGreatDoor
open Go.RowKit
set_option linter.unusedVariables false

theorem Ext.setCell {a b : World} (h : Ext a b) {p : Addr} (hp : a.heap.size ≤ p.block) (v : Value) : Ext a (b.setCell p v) :=
  ⟨Below.setCell h.1 hp v, fun q => (World.frozen?_setCell _ _ _ _).trans (h.2 q)⟩
theorem ext_cell {w0 w : World} (h : Ext w0 w) {b o : Nat} {v : Value} (hb : b < w0.heap.size) (hc : w0.cell? ⟨b, o, none⟩ = some v) : w.cell? ⟨b, o, none⟩ = some v :=
  (Below.cell h.1 (p := ⟨b, o, none⟩) hb).trans hc
theorem ext_last2 {X w : World} {v0 v1 : Value} {t : TypeId} (h : Ext (X.alloc (.cells #[v0, v1] t)) w) :
    w.cell? ⟨X.heap.size, 0, none⟩ = some v0 ∧ w.cell? ⟨X.heap.size, 1, none⟩ = some v1 ∧ w.frozen? ⟨X.heap.size, 0, none⟩ = false ∧ w.frozen? ⟨X.heap.size, 1, none⟩ = false ∧ X.heap.size < w.heap.size := by
  have hb : (X.alloc (.cells #[v0, v1] t)).heap[X.heap.size]? = some (.cells #[v0, v1] t) := (MapKept.heap_alloc X _).1
  have hlt : X.heap.size < (X.alloc (.cells #[v0, v1] t)).heap.size := by show X.heap.size < (X.heap.push _).size; simp
  refine ⟨ext_cell h hlt ?_, ext_cell h hlt ?_, ?_, ?_, Nat.lt_of_lt_of_le hlt h.1.size⟩
  · simp only [World.cell?, hb]; rfl
  · simp only [World.cell?, hb]; rfl
  · rw [h.2]; simp only [World.frozen?, hb]; rfl
  · rw [h.2]; simp only [World.frozen?, hb]; rfl
theorem ext_keeps {w w' : World} (h : Ext w w') {p : Addr} {v : Value} (hc : w.cell? p = some v) : w'.cell? p = some v := by
  have hb : p.block < w.heap.size := by
    refine Nat.lt_of_not_le fun hle => ?_
    have : w.heap[p.block]? = none := Array.getElem?_eq_none hle
    simp [World.cell?, this] at hc
  exact (Below.cell h.1 hb).trans hc
structure Own (w : World) (b : Nat) (x y : Value) : Prop where
  c0 : w.cell? ⟨b, 0, none⟩ = some x
  c1 : w.cell? ⟨b, 1, none⟩ = some y
  f0 : w.frozen? ⟨b, 0, none⟩ = false
  f1 : w.frozen? ⟨b, 1, none⟩ = false
  lt : b < w.heap.size
theorem Own.ext {w w' : World} {b : Nat} {x y : Value} (h : Own w b x y) (k : Ext w w') : Own w' b x y :=
  ⟨ext_keeps k h.c0, ext_keeps k h.c1, (k.2 _).trans h.f0, (k.2 _).trans h.f1, Nat.lt_of_lt_of_le h.lt k.1.size⟩
theorem Own.last {X : World} {x y : Value} {t : TypeId} : Own (X.alloc (.cells #[x, y] t)) X.heap.size x y := by
  obtain ⟨h0, h1, h2, h3, h4⟩ := ext_last2 (Ext.refl (X.alloc (.cells #[x, y] t)))
  exact ⟨h0, h1, h2, h3, h4⟩
theorem Own.alloc {w : World} {b : Nat} {x y : Value} (h : Own w b x y) (c : Array Value) (t : TypeId) : Own (w.alloc (.cells c t)) b x y := h.ext ((Ext.refl w).cells c t)
theorem Own.set {w : World} {b : Nat} {x y : Value} (h : Own w b x y) (u v : Value) : Own ((w.setCell ⟨b, 0, none⟩ u).setCell ⟨b, 1, none⟩ v) b u v := by
  have hne : (⟨b, 0, none⟩ : Addr) ≠ ⟨b, 1, none⟩ := by simp
  refine ⟨?_, ?_, ?_, ?_, ?_⟩
  · rw [World.cell?_setCell_other (h := hne.symm)]; exact World.cell?_setCell_same _ _ _ (h := h.c0)
  · refine World.cell?_setCell_same _ _ _ (u := y) (h := ?_)
    rw [World.cell?_setCell_other (h := hne)]; exact h.c1
  · rw [World.frozen?_setCell, World.frozen?_setCell]; exact h.f0
  · rw [World.frozen?_setCell, World.frozen?_setCell]; exact h.f1
  · simpa [World.setCell] using h.lt
theorem Ext.set2 {a b : World} (h : Ext a b) {n : Nat} (hn : a.heap.size ≤ n) (u v : Value) : Ext a ((b.setCell ⟨n, 0, none⟩ u).setCell ⟨n, 1, none⟩ v) := (h.setCell hn u).setCell hn v
theorem size_alloc (w : World) (o : Obj) : (w.alloc o).heap.size = w.heap.size + 1 := by show (w.heap.push o).size = _; simp
end Go.Proofs.YtifnkmddinoneaaGreatDoor
namespace Go.Proofs.YtifnkmddinoneaaGreatDoor
open Go.RowKit
set_option linter.unusedVariables false
def le8 (x : Int) : List UInt8 := (List.range 8).map fun i => UInt8.ofNat (natOf x / 256 ^ i % 256)
theorem le8_len (x : Int) : (le8 x).length = 8 := by simp [le8]
theorem le8_get (x : Int) (i : Nat) (h : i < (le8 x).length) : ((le8 x)[i].toNat : Nat) = natOf x / 256 ^ i % 256 := by
  simp only [le8, List.getElem_map, List.getElem_range]
  rw [UInt8.toNat_ofNat', Nat.mod_mod]
theorem byte_of (x : Int) (h : I64 x) (i : Nat) (hi : i < 8) : x / 2 ^ (8 * i) % 256 = ((natOf x / 256 ^ i % 256 : Nat) : Int) := by
  have e := natOf_is x
  rw [u64_wrap] at e
  obtain ⟨X, hX⟩ : ∃ X, X = natOf x := ⟨_, rfl⟩
  rw [← hX] at e ⊢
  match i, hi with
  | 0, _ => simp; omega
  | 1, _ => simp; omega
  | 2, _ => simp; omega
  | 3, _ => simp; omega
  | 4, _ => simp; omega
  | 5, _ => simp; omega
  | 6, _ => simp; omega
  | 7, _ => simp; omega
end Go.Proofs.YtifnkmddinoneaaGreatDoor
namespace Go.Proofs.YtifnkmddinoneaaGreatDoor
set_option linter.unusedVariables false

def str (l : List UInt8) : ByteArray := ⟨l.toArray⟩
theorem str_size (l : List UInt8) : (str l).size = l.length := by simp [str, ByteArray.size]
theorem str_list (l : List UInt8) : (str l).data.toList = l := by simp [str]
theorem str_get (l : List UInt8) (i : Nat) (h : i < (str l).size) : (str l)[i] = l[i]'(by rw [str_size] at h; exact h) := by
  show (str l).data[i]'_ = _
  simp [str]
theorem str_back (S : ByteArray) : S = str S.data.toList := by simp [str]
theorem str_extract (l : List UInt8) (i j : Nat) : (str l).extract i j = str ((l.drop i).take (j - i)) := by
  apply ByteArray.ext
  simp [str, ByteArray.data_extract, List.extract_eq_take_drop]
theorem str_inj {a b : List UInt8} (h : str a = str b) : a = b := by
  have := congrArg (fun s => s.data.toList) h
  simpa [str_list] using this
theorem take_while {α : Type} (q : α → Bool) : ∀ (M : List α) (m : Nat), m ≤ M.length → (∀ j (hj : j < M.length), j < m → q M[j] = true) → (∀ h : m < M.length, q M[m] = false) → M.takeWhile q = M.take m
  | [], m, h, _, _ => by simp
  | x :: M, 0, _, _, h0 => by
    have := h0 (by simp)
    simp at this
    simp [this]
  | x :: M, m + 1, h, h1, h0 => by
    have hx := h1 0 (by simp) (by omega)
    simp at hx
    rw [List.takeWhile_cons, if_pos hx, List.take_succ_cons, take_while q M m (by simpa using h) (fun j hj hm => by
      have := h1 (j + 1) (by simpa using hj) (by omega)
      simpa using this) (fun hm => by
      have := h0 (by simpa using hm)
      simpa using this)]
def upF (p : UInt8 → Bool) (L : List UInt8) (k : Nat) : List UInt8 := (L.drop k).takeWhile fun c => !p c
def upN (p : UInt8 → Bool) (L : List UInt8) (k : Nat) : Nat := min (k + (upF p L k).length + 1) L.length
theorem upF_at (p : UInt8 → Bool) (L : List UInt8) (k i : Nat) (hk : k ≤ i) (hi : i ≤ L.length) (h1 : ∀ j (hj : j < L.length), k ≤ j → j < i → p L[j] = false) (h2 : ∀ h : i < L.length, p L[i] = true) : upF p L k = (L.drop k).take (i - k) := by
  refine take_while _ _ _ (by simp; omega) (fun j hj hm => ?_) (fun h => ?_)
  · simp at hj
    have := h1 (k + j) (by omega) (by omega) (by omega)
    simp [this]
  · simp at h
    have := h2 (by omega)
    simp [show k + (i - k) = i by omega, this]
theorem upF_len (p : UInt8 → Bool) (L : List UInt8) (k i : Nat) (hk : k ≤ i) (hi : i ≤ L.length) (h1 : ∀ j (hj : j < L.length), k ≤ j → j < i → p L[j] = false) (h2 : ∀ h : i < L.length, p L[i] = true) : upN p L k = min (i + 1) L.length := by
  unfold upN
  rw [upF_at p L k i hk hi h1 h2]
  simp
  omega
theorem upN_le (p : UInt8 → Bool) (L : List UInt8) (k : Nat) : upN p L k ≤ L.length := by unfold upN; omega
def blank (c : UInt8) : Bool := decide (c.toNat ≤ 32)
def skipN (L : List UInt8) (k : Nat) : Nat := k + ((L.drop k).takeWhile blank).length
theorem skipN_at (L : List UInt8) (k i : Nat) (hk : k ≤ i) (hi : i ≤ L.length) (h1 : ∀ j (hj : j < L.length), k ≤ j → j < i → blank L[j] = true) (h2 : ∀ h : i < L.length, blank L[i] = false) : skipN L k = i := by
  unfold skipN
  rw [take_while blank _ (i - k) (by simp; omega) (fun j hj hm => by
    simp at hj
    have := h1 (k + j) (by omega) (by omega) (by omega)
    simpa using this) (fun h => by
    simp at h
    have := h2 (by omega)
    simpa [show k + (i - k) = i by omega] using this)]
  simp
  omega
def heldN (n : Nat) (i : Int) : Nat := (min (max i 0) (n : Int)).toNat
theorem heldN_le (n : Nat) (i : Int) : heldN n i ≤ n := by unfold heldN; omega
end Go.Proofs.YtifnkmddinoneaaGreatDoor
namespace Go.Proofs.YtifnkmddinoneaaGreatDoor.L14
open Go.RowKit
set_option linter.unusedVariables false

/-- A frame: its kind, A, B, X, Y and its locals. -/
structure Fm where
  k : Int
  a : Int
  b : Int
  x : Int
  y : Int
  l : List Int
def zF : Fm := ⟨0, 0, 0, 0, 0, []⟩
def endsF (d s : Int) : Bool := if s < 0 then decide (0 ≤ d) && decide (wrap64 (d + s) < 0) else decide (d < 0) && decide (0 ≤ wrap64 (d + s))
def pushL (L : List Fm) (q : Fm) : List Fm := if 128 ≤ L.length then L else L ++ [q]
def pushE (L : List Fm) : Int := if 128 ≤ L.length then -5 else 0
def topK (k : Int) (L : List Fm) : Option Fm := L.getLast?.bind fun q => if q.k = k then some q else none
def popL (k : Int) (L : List Fm) : List Fm := if (topK k L).isSome then L.dropLast else L
def errK (k e : Int) (L : List Fm) : Int := if (topK k L).isSome then 0 else e
def cutL (n : Int) (L : List Fm) : List Fm := L.take n.toNat
def loopAt (n : Int) (L : List Fm) : Option Fm := if 0 ≤ n ∧ n < (L.length : Int) ∧ ∀ q ∈ L.drop (L.length - 1 - n.toNat), q.k = 3 then L[L.length - 1 - n.toNat]? else none
def orE (e : Int) (o : Option Int) : Int := if o.isSome then 0 else e
def indexL (n : Int) (L : List Fm) : Option Int := (loopAt n L).map (·.x)
def stepEnd (s : Int) (L : List Fm) : Bool := match topK 3 L with
  | some q => endsF (wrap64 (q.x - q.y)) s
  | none => false
def stepL (s : Int) (L : List Fm) : List Fm := match topK 3 L with
  | some q => if endsF (wrap64 (q.x - q.y)) s then L.dropLast else L.dropLast ++ [{ q with x := wrap64 (q.x + s) }]
  | none => L
def topP (p : Fm → Bool) (L : List Fm) : Option Nat := (L.reverse.findIdx? p).map fun i => L.length - 1 - i
def hides (q : Fm) : Bool := decide (q.k = 4 ∨ q.k = 1)
def placeL (i : Int) (L : List Fm) : Option Nat := (topP hides L).bind fun at_ => L[at_]?.bind fun q => if q.k = 4 ∧ 0 ≤ i ∧ i < (q.l.length : Int) then some at_ else none
def localL (i : Int) (L : List Fm) : Option Int := (placeL i L).bind fun at_ => L[at_]?.bind fun q => q.l[i.toNat]?
def setL (i x : Int) (L : List Fm) : List Fm := match placeL i L with
  | some at_ => L.modify at_ fun q => { q with l := q.l.set i.toNat x }
  | none => L
def isCatch (q : Fm) : Bool := decide (q.k = 5)
def catchAt (L : List Fm) : Option Nat := topP isCatch L
def catchL (L : List Fm) : List Fm := match catchAt L with
  | some at_ => L.take at_
  | none => L
def caught (L : List Fm) : Option Fm := (catchAt L).bind fun at_ => L[at_]?
theorem snoc_cases (L : List Fm) : L = [] ∨ ∃ A q, L = A ++ [q] := by
  rcases List.eq_nil_or_concat L with h | ⟨A, q, h⟩
  · exact Or.inl h
  · exact Or.inr ⟨A, q, by simpa using h⟩
theorem topK_snoc (k : Int) (A : List Fm) (q : Fm) : topK k (A ++ [q]) = if q.k = k then some q else none := by simp [topK]
theorem topP_none {p : Fm → Bool} {L : List Fm} (h : ∀ q ∈ L, p q = false) : topP p L = none := by
  unfold topP
  rw [List.findIdx?_eq_none_iff.2 (by simpa using h)]
  rfl
theorem topP_is {p : Fm → Bool} {A : List Fm} {q : Fm} {B : List Fm} (h : p q = true) (hB : ∀ b ∈ B, p b = false) : topP p (A ++ q :: B) = some A.length := by
  have e : (A ++ q :: B).reverse.findIdx? p = some B.length := by
    rw [List.findIdx?_eq_some_iff_getElem]
    refine ⟨by simp, ?_, fun j hj => ?_⟩
    · rw [List.getElem_reverse]
      have : (A ++ q :: B)[(A ++ q :: B).length - 1 - B.length]'(by simp) = q := by
        rw [List.getElem_append_right (by simp)]
        simp
      rw [this]; exact h
    · rw [List.getElem_reverse]
      have hl : (A ++ q :: B).length - 1 - j = A.length + 1 + (B.length - 1 - j) := by simp; omega
      have : (A ++ q :: B)[(A ++ q :: B).length - 1 - j]'(by simp; omega) = B[B.length - 1 - j]'(by omega) := by
        have e2 : (A ++ q :: B)[(A ++ q :: B).length - 1 - j]? = some (B[B.length - 1 - j]'(by omega)) := by
          rw [hl, List.getElem?_append_right (by omega), show A.length + 1 + (B.length - 1 - j) - A.length = (B.length - 1 - j) + 1 by omega, List.getElem?_cons_succ, List.getElem?_eq_getElem (by omega)]
        exact (List.getElem?_eq_some_iff.1 e2).2
      rw [this, hB _ (List.getElem_mem _)]
      simp
  unfold topP
  rw [e]
  simp
theorem top_cases (p : Fm → Bool) (L : List Fm) : (∀ q ∈ L, p q = false) ∨ ∃ A q B, L = A ++ q :: B ∧ p q = true ∧ ∀ b ∈ B, p b = false := by
  induction L with
  | nil => exact Or.inl (by simp)
  | cons x r ih =>
    rcases ih with h | ⟨A, q, B, rfl, h1, h2⟩
    · cases hx : p x with
      | false => exact Or.inl (by simpa [hx] using h)
      | true => exact Or.inr ⟨[], x, r, rfl, hx, h⟩
    · exact Or.inr ⟨x :: A, q, B, rfl, h1, h2⟩
theorem place_none {L : List Fm} (h : ∀ q ∈ L, hides q = false) (i : Int) : placeL i L = none := by unfold placeL; rw [topP_none h]; rfl
theorem place_is {A : List Fm} {q : Fm} {B : List Fm} (h : hides q = true) (hB : ∀ b ∈ B, hides b = false) (i : Int) : placeL i (A ++ q :: B) = if q.k = 4 ∧ 0 ≤ i ∧ i < (q.l.length : Int) then some A.length else none := by
  unfold placeL
  rw [topP_is h hB]
  simp
theorem local_is {A : List Fm} {q : Fm} {B : List Fm} (h : hides q = true) (hB : ∀ b ∈ B, hides b = false) (i : Int) : localL i (A ++ q :: B) = if q.k = 4 ∧ 0 ≤ i ∧ i < (q.l.length : Int) then q.l[i.toNat]? else none := by
  unfold localL
  rw [place_is h hB]
  split <;> simp
theorem modify_mid (A : List Fm) (q : Fm) (B : List Fm) (f : Fm → Fm) : (A ++ q :: B).modify A.length f = A ++ f q :: B := by
  induction A with
  | nil => rfl
  | cons x r ih => simpa using ih
theorem set_is {A : List Fm} {q : Fm} {B : List Fm} (h : hides q = true) (hB : ∀ b ∈ B, hides b = false) (i x : Int) : setL i x (A ++ q :: B) = if q.k = 4 ∧ 0 ≤ i ∧ i < (q.l.length : Int) then A ++ { q with l := q.l.set i.toNat x } :: B else A ++ q :: B := by
  unfold setL
  rw [place_is h hB]
  by_cases hc : q.k = 4 ∧ 0 ≤ i ∧ i < (q.l.length : Int)
  · rw [if_pos hc, if_pos hc]
    exact modify_mid A q B _
  · rw [if_neg hc, if_neg hc]
theorem catch_none {L : List Fm} (h : ∀ q ∈ L, isCatch q = false) : catchAt L = none ∧ catchL L = L ∧ caught L = none := by
  have e : catchAt L = none := topP_none h
  refine ⟨e, ?_, ?_⟩
  · unfold catchL; rw [e]
  · unfold caught; rw [e]; rfl
theorem catch_is {A : List Fm} {q : Fm} {B : List Fm} (h : isCatch q = true) (hB : ∀ b ∈ B, isCatch b = false) : catchAt (A ++ q :: B) = some A.length ∧ catchL (A ++ q :: B) = A ∧ caught (A ++ q :: B) = some q := by
  have e : catchAt (A ++ q :: B) = some A.length := topP_is h hB
  refine ⟨e, ?_, ?_⟩
  · unfold catchL; rw [e]; simp
  · unfold caught; rw [e]; simp
theorem loopAt_no {n : Int} {L : List Fm} (h : ¬ (0 ≤ n ∧ n < (L.length : Int))) : loopAt n L = none := by
  unfold loopAt
  rw [if_neg fun hh => h ⟨hh.1, hh.2.1⟩]
theorem loopAt_is {A : List Fm} {q : Fm} {B : List Fm} {n : Int} (hn : n = (B.length : Int)) (h : ∀ b ∈ q :: B, b.k = 3) : loopAt n (A ++ q :: B) = some q := by
  subst hn
  unfold loopAt
  have e : (A ++ q :: B).length - 1 - (B.length : Int).toNat = A.length := by simp
  rw [e, if_pos ⟨by omega, by simp; omega, by simpa using h⟩]
  simp
theorem loopAt_not {A : List Fm} {q : Fm} {B : List Fm} {n : Int} (hn : (B.length : Int) ≤ n) (h : q.k ≠ 3) : loopAt n (A ++ q :: B) = none := by
  unfold loopAt
  refine if_neg fun hh => h ?_
  obtain ⟨h0, h1, h2⟩ := hh
  refine h2 q ?_
  have hle : (A ++ q :: B).length - 1 - n.toNat ≤ A.length := by simp; omega
  rw [List.drop_append_of_le_length hle]
  simp
end Go.Proofs.YtifnkmddinoneaaGreatDoor.L14
namespace Go.Proofs.YtifnkmddinoneaaGreatDoor
open Go.RowKit
set_option linter.unusedVariables false

theorem within_calls (S : ByteArray) (i : Int) (w : World) : Calls Tryz.prog 249 #[.string S, .int .i64 i] w fun e w' => e = .returned (.int .i64 ((heldN S.size i : Nat) : Int)) ∧ w = w' := by
  have e : ((heldN S.size i : Nat) : Int) = min (max i 0) (S.size : Int) := by unfold heldN; omega
  rw [e]
  go_enter Tryz.func249, Tryz.ntmps249
  go_wp2
  all_goals
    go_ret
    exact ⟨ret_i64 (by omega), rfl⟩
theorem blank_calls (c : UInt8) (w : World) : Calls Tryz.prog 250 #[.int .u8 (c.toNat : Int)] w fun e w' => e = .returned (.bool (blank c)) ∧ w = w' := by
  have e : blank c = decide ((c.toNat : Int) ≤ 32) := by unfold blank; rw [Bool.eq_iff_iff, decide_eq_true_iff, decide_eq_true_iff]; omega
  rw [e]
  go_enter Tryz.func250, Tryz.ntmps250
  go_wp2
  go_ret
  exact ⟨rfl, rfl⟩
theorem upTo_calls (p : UInt8 → Bool) (f : FuncId) (q : Array Value) (L : List UInt8) (k : Nat) (hk : k ≤ L.length) (hl : L.length ≤ 4611686018427387904) (w : World)
    (hrun : ∀ c : UInt8, (callFunc f (#[.int .u8 (c.toNat : Int)] ++ q)).run Tryz.prog w = .ok (.enter f (#[.int .u8 (c.toNat : Int)] ++ q)) w)
    (hc : ∀ c : UInt8, Calls Tryz.prog f (#[.int .u8 (c.toNat : Int)] ++ q) w fun e w' => e = .returned (.bool (p c)) ∧ w = w') :
    Calls Tryz.prog 251 #[.string (str L), .int .i64 (k : Int), .func (.func f) #[] q] w fun e w' => e = .returned (.tuple #[.string (str (upF p L k)), .int .i64 ((upN p L k : Nat) : Int)]) ∧ w = w' := by
  have hn := str_size L
  obtain ⟨S, hS⟩ : ∃ S, S = str L := ⟨_, rfl⟩
  rw [← hS] at hn ⊢
  have hget : ∀ i (h : i < S.size) (h2 : i < L.length), S[i] = L[i] := by subst hS; exact fun i h _ => str_get L i h
  have hext : ∀ i j, S.extract i j = str ((L.drop i).take (j - i)) := by subst hS; exact str_extract L
  have HG := Lib.hid hget
  have HE := Lib.hid hext
  have hnn : (S.size : Int) ≤ 4611686018427387904 := by omega
  clear hS hget hext
  have HC := Lib.hid hc
  clear hc
  go_enter Tryz.func251, Tryz.ntmps251
  go_wp2
  go_loop [8] (fun v => ∃ i : Nat, v = .int .i64 (i : Int) ∧ k ≤ i ∧ i ≤ L.length ∧ RowKit.Hid (∀ j (hj : j < L.length), k ≤ j → j < i → p L[j] = false)) (fun v => L.length - (intOf v).toNat)
  case atStart => exact ⟨k, rfl, by omega, hk, Lib.hid (fun j hj h1 h2 => by omega)⟩
  case round =>
    obtain ⟨i, rfl, hki, hil, hno⟩ := hrel
    by_cases hlt : i < L.length
    · have hlS : i < S.size := by omega
      have hlI : (i : Int) < (S.size : Int) := by omega
      have hg := HG.out i hlS hlt
      obtain ⟨c, hcc⟩ : ∃ c, c = L[i] := ⟨_, rfl⟩
      have hcS : ((S[i]'hlS).toNat : Int) = (c.toNat : Int) := by rw [hg, hcc]
      have hr := hrun c
      have hk' := HC.out c
      obtain ⟨pc, hpc⟩ : ∃ b, b = p c := ⟨_, rfl⟩
      rw [← hpc] at hk'
      have HK := Lib.hid hk'
      have HPC := Lib.hid hpc
      have HCC := Lib.hid hcc
      clear hk' hpc hcc hg
      go_wp2_with fail
      refine (HK.out).mono ?_
      rintro e w1 ⟨rfl, rfl⟩
      cases pc with
      | true =>
        have hu := upF_at p L k i hki hil hno.out (fun h => by rw [← HCC.out, ← HPC.out])
        have hv := upF_len p L k i hki hil hno.out (fun h => by rw [← HCC.out, ← HPC.out])
        have hm : ((min (i + 1) L.length : Nat) : Int) = (i : Int) + 1 := by omega
        have hx := HE.out k i
        have HU := Lib.hid (And.intro hu (And.intro hv (And.intro hm hx)))
        clear hu hv hm hx
        have hkI : (k : Int) ≤ (i : Int) := by omega
        go_wp2_with fail
        go_ret2
        exact ⟨by rw [HU.out.1, HU.out.2.1, HU.out.2.2.1, ← HU.out.2.2.2]; rfl, rfl⟩
      | false =>
        go_wp2_with fail
        go_round
        case rel => exact ⟨i + 1, by go_num, by omega, by omega, Lib.hid fun j hj h1 h2 => by
          by_cases hji : j = i
          · subst hji; rw [← HCC.out, ← HPC.out]
          · exact hno.out j hj h1 (by omega)⟩
        case measure => simp [intOf]; omega
    · have hie : i = L.length := by omega
      have hu := upF_at p L k i hki hil hno.out (fun h => absurd h hlt)
      have hv := upF_len p L k i hki hil hno.out (fun h => absurd h hlt)
      have hlI : ¬ (i : Int) < (S.size : Int) := by omega
      have hx := HE.out k L.length
      rw [show L.length - k = i - k by omega] at hx
      have hm2 : min (i + 1) L.length = L.length := by omega
      have hkS : k ≤ S.size := by omega
      have hkI : (k : Int) ≤ (S.size : Int) := by omega
      have HU := Lib.hid (And.intro hu (And.intro hv (And.intro hm2 hx)))
      clear hu hv hm2 hx
      go_wp2_with fail
      go_ret2
      exact ⟨by rw [HU.out.1, HU.out.2.1, HU.out.2.2.1, ← HU.out.2.2.2]; rfl, rfl⟩
end Go.Proofs.YtifnkmddinoneaaGreatDoor
namespace Go.Proofs.YtifnkmddinoneaaGreatDoor
open Go.RowKit
set_option linter.unusedVariables false
set_option maxRecDepth 100000
def wordL (L : List UInt8) (i : Int) : List UInt8 × Nat := (upF blank L (skipN L (heldN L.length i)), upN blank L (skipN L (heldN L.length i)))
theorem skipN_le (L : List UInt8) (k : Nat) (h : k ≤ L.length) : skipN L k ≤ L.length := by
  unfold skipN
  have := (List.takeWhile_sublist (l := L.drop k) blank).length_le
  simp at this
  omega
set_option maxHeartbeats 2000000 in
theorem word_calls (L : List UInt8) (hl : L.length ≤ 4611686018427387904) (i : Int) (w : World) :
    Calls Tryz.prog 106 #[.string (str L), .int .i64 i] w fun e w' => e = .returned (.tuple #[.string (str (wordL L i).1), .int .i64 (((wordL L i).2 : Nat) : Int)]) ∧ Mod [] w w' := by
  have H1 := Lib.hid (within_calls (str L) i)
  have hk0 := heldN_le L.length i
  have H2 := Lib.hid (upTo_calls blank 250 #[] L (skipN L (heldN L.length i)) (skipN_le _ _ hk0) hl w (fun c => rfl) (fun c => blank_calls c w))
  rw [str_size] at H1
  unfold wordL
  obtain ⟨k, hk⟩ : ∃ k, k = heldN L.length i := ⟨_, rfl⟩
  rw [← hk] at H1 H2 hk0 ⊢
  have hn := str_size L
  obtain ⟨S, hS⟩ : ∃ S, S = str L := ⟨_, rfl⟩
  rw [← hS] at hn H1 H2 ⊢
  have hget : ∀ i (h : i < S.size) (h2 : i < L.length), S[i] = L[i] := by subst hS; exact fun i h _ => str_get L i h
  have HG := Lib.hid hget
  have hnn : (S.size : Int) ≤ 4611686018427387904 := by omega
  clear hk hS hget
  dsimp only
  have HM := Mod.refl [] w
  have HB := Lib.hid (fun c => blank_calls c w)
  go_enter Tryz.func106, Tryz.ntmps106
  go_wp2_with fail
  refine (H1.out _).mono ?_
  rintro e w1 ⟨rfl, rfl⟩
  go_wp2_with fail
  go_loop [6] (fun v => ∃ i : Nat, v = .int .i64 (i : Int) ∧ k ≤ i ∧ i ≤ L.length ∧ RowKit.Hid (∀ j (hj : j < L.length), k ≤ j → j < i → blank L[j] = true)) (fun v => L.length - (intOf v).toNat)
  case atStart => exact ⟨k, rfl, by omega, hk0, Lib.hid (fun j hj h1 h2 => by omega)⟩
  case round =>
    obtain ⟨i, rfl, hki, hil, hno⟩ := hrel
    by_cases hlt : i < L.length
    · have hlS : i < S.size := by omega
      have hlI : (i : Int) < (S.size : Int) := by omega
      have hg := HG.out i hlS hlt
      obtain ⟨c, hcc⟩ : ∃ c, c = L[i] := ⟨_, rfl⟩
      have hcS : ((S[i]'hlS).toNat : Int) = (c.toNat : Int) := by rw [hg, hcc]
      have hk' := HB.out c
      obtain ⟨pc, hpc⟩ : ∃ b, b = blank c := ⟨_, rfl⟩
      rw [← hpc] at hk'
      have HK := Lib.hid hk'
      have HPC := Lib.hid hpc
      have HCC := Lib.hid hcc
      clear hk' hpc hcc hg
      go_wp2_with fail
      refine (HK.out).mono ?_
      rintro e w1 ⟨rfl, rfl⟩
      cases pc with
      | true =>
        go_wp2_with fail
        go_round
        case rel => exact ⟨i + 1, by go_num, by omega, by omega, Lib.hid fun j hj h1 h2 => by
          by_cases hji : j = i
          · subst hji; rw [← HCC.out, ← HPC.out]
          · exact hno.out j hj h1 (by omega)⟩
        case measure => simp [intOf]; omega
      | false =>
        have hs := skipN_at L k i hki hil hno.out (fun h => by rw [← HCC.out, ← HPC.out])
        have H3 := H2.out
        rw [hs] at H3
        have H4 := Lib.hid H3
        have HS := Lib.hid hs
        clear H3 hs
        go_wp2_with fail
        refine (H4.out).mono ?_
        rintro e w1 ⟨rfl, rfl⟩
        go_wp2_with fail
        go_ret2
        exact ⟨by rw [HS.out]; rfl, HM⟩
    · have hlI : ¬ (i : Int) < (S.size : Int) := by omega
      have hs := skipN_at L k i hki hil hno.out (fun h => absurd h hlt)
      have H3 := H2.out
      rw [hs] at H3
      have H4 := Lib.hid H3
      have HS := Lib.hid hs
      clear H3 hs
      go_wp2_with fail
      refine (H4.out).mono ?_
      rintro e w1 ⟨rfl, rfl⟩
      go_wp2_with fail
      go_ret2
      exact ⟨by rw [HS.out]; rfl, HM⟩
end Go.Proofs.YtifnkmddinoneaaGreatDoor
