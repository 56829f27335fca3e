/- Layer 4 (library): what the calls leave as it was; the tables of the library; numbers as decimal texts. No condition. Layer 13: maps from whole numbers to values, as functions; their copy; boxes. No condition. Layer 15: maps whose keys are numbers of 8 bits, as functions; a look-up without an answer whether it is there; an element that is there, set anew. No condition. -/
import Ieee.Arith
import Derived.Laws.FloatBits
import Derived.Laws.Cover2
import Derived.Laws.FloatArith
import Derived.Laws.Externs
import Derived.Laws.BitsAllLaws
import Derived.Shelf.Spec.TrailingZeros
import Derived.Lib.AppendIntMem
import Derived.Test.YtifnkmddinoneaaGreatDoorCBAA
import Derived.Test.YtifnkmddinoneaaGreatDoorCBAB
import Derived.Maps.RangeRun
import Derived.Carry
set_option maxRecDepth 100000
namespace Go.Proofs.YtifnkmddinoneaaGreatDoor
open Go.RowKit Go.Sort
set_option linter.unusedVariables false

/-- Nothing that was there in w has changed in w'. -/
def Far (w w' : World) : Prop := Below w.heap.size w w'
structure Good (W : World) : Prop where
  big : 6 ≤ W.heap.size
  pow : Lib.TabIs Tryz.prog W "internal/strconv.uint64pow10" .u64 Lib.pow10Tab
  bru : Lib.TabIs Tryz.prog W "math/bits.deBruijn64tab" .u8 (Lib.deBruijn64tab.map Int.ofNat)
theorem var_far {W W' : World} (h : Far W W') {n : String} {g : Nat} (hg : Tryz.prog.globalNamed n = some g) (hl : g < W.heap.size) : W'.var? Tryz.prog n = W.var? Tryz.prog n := by
  unfold World.var?
  rw [hg]
  show (match W'.heap[g]? with | some (.cells cs _ _) => some cs | _ => none) = _
  rw [h.block g hl]
  rfl
theorem Good.far {W W' : World} (g : Good W) (h : Far W W') : Good W' := by
  have hs := g.big
  refine ⟨Nat.le_trans g.big h.size, ?_, ?_⟩
  · exact (var_far h (show Tryz.prog.globalNamed "internal/strconv.uint64pow10" = some 5 by kernel_rfl) (by omega)).trans g.pow
  · exact (var_far h (show Tryz.prog.globalNamed "math/bits.deBruijn64tab" = some 4 by kernel_rfl) (by omega)).trans g.bru
end Go.Proofs.YtifnkmddinoneaaGreatDoor
namespace Go.Proofs.YtifnkmddinoneaaGreatDoor
open Go.RowKit
open Go.ChangeMaps (setBlock)
set_option linter.unusedVariables false
def MapV (w : World) (b : Nat) (f : Int → Option Value) : Prop :=
  ∃ es c, w.heap[b]? = some (.map es c) ∧ (∀ x ∈ es.toList, ∃ n, x.key = .int .i64 n ∧ f n = some x.val) ∧ (∀ n v, f n = some v → ∃ x ∈ es.toList, x.key = .int .i64 n) ∧ (es.toList.map (·.born)).Nodup ∧ (∀ x ∈ es.toList, x.born < c) ∧ (es.toList.map (·.key)).Nodup
theorem MapV.lt {w : World} {b : Nat} {f : Int → Option Value} (h : MapV w b f) : b < w.heap.size := by
  obtain ⟨es, c, h, _⟩ := h
  exact (Array.getElem?_eq_some_iff.1 h).1
theorem MapV.same {w w' : World} {b : Nat} {f : Int → Option Value} (h : MapV w b f) (e : w'.heap[b]? = w.heap[b]?) : MapV w' b f := by
  obtain ⟨es, c, h, h2⟩ := h
  exact ⟨es, c, e.trans h, h2⟩
theorem MapV.mod {w w' : World} {S : List Nat} {b : Nat} {f : Int → Option Value} (h : MapV w b f) (m : Mod S w w') (hb : b ∉ S) : MapV w' b f := h.same (m.block b h.lt hb)
theorem MapV.far {w w' : World} {b : Nat} {f : Int → Option Value} (h : MapV w b f) (m : Mod [] w w') : MapV w' b f := h.mod m (by simp)
theorem MapV.new (w : World) : MapV (w.alloc (.map #[] 0)) w.heap.size fun _ => none := ⟨#[], 0, (MapKept.heap_alloc w _).1, fun x hx => by simp at hx, (fun n v h => by cases h), by simp, (fun x hx => by simp at hx), by simp⟩
theorem MapV.cell_ne {w : World} {b : Nat} {f : Int → Option Value} (h : MapV w b f) {k o : Nat} {v : Value} (hc : w.cell? ⟨k, o, none⟩ = some v) : k ≠ b := fun e => by
  obtain ⟨es, c, h, _⟩ := h
  subst e
  unfold World.cell? at hc
  simp [h] at hc
theorem keysV {es : List MapEntry} {f : Int → Option Value} (h : ∀ x ∈ es, ∃ n, x.key = .int .i64 n ∧ f n = some x.val) : ∀ x ∈ es, MapKept.IsKey (.int .i64) x.key := fun x hx => by
  obtain ⟨n, e, _⟩ := h x hx
  rw [e]; rfl
theorem map_mod {w : World} {b : Nat} {es es' : Array MapEntry} {c c' : Nat} (h : w.heap[b]? = some (.map es c)) : Mod [b] w { w with heap := w.heap.setIfInBounds b (.map es' c') } :=
  ⟨rfl, rfl, rfl, by simp, fun k _ hk => (MapKept.heap_set h).2 k (by simpa using hk)⟩
def updV (f : Int → Option Value) (n : Int) (v : Value) : Int → Option Value := fun m => if m = n then some v else f m
theorem MapV.put {P : Program} {t k e : TypeId} (ht : P.underlying t = some (.map k e)) (hk : P.underlying k = some (.int .i64)) {w : World} {b : Nat} {f : Int → Option Value} (h : MapV w b f) (n : Int) (v : Value) (hf : f n = none) :
    ∃ w', (Instr.mapUpdate t (.map (some b)) (.int .i64 n) v).run P w = .ok () w' ∧ MapV w' b (updV f n v) ∧ Mod [b] w w' := by
  obtain ⟨es, c, hb, h1, h2, h3, h4, h5⟩ := h
  rcases MapKept.findNow_spec (d := .int .i64) (k := .int .i64 n) rfl es.toList 0 (keysV h1) with ⟨e1, e2⟩ | ⟨j, x, e1, e2, e3⟩
  · refine ⟨_, by simp [Instr.mapUpdate, run_underlying ht, MapKept.run_getObj_map hb, MapKept.run_checkKey hk (k := .int .i64 n) rfl, MapKept.run_findKey hk e1, MapKept.run_setObj_map _ hb, Result.andThen]; rfl, ⟨_, _, (MapKept.heap_set hb).1, ?_, ?_, ?_, ?_, ?_⟩, map_mod hb⟩
    · intro y hy
      simp only [Array.toList_push, List.mem_append, List.mem_singleton] at hy
      rcases hy with hy | rfl
      · obtain ⟨m, a1, a2⟩ := h1 y hy
        refine ⟨m, a1, ?_⟩
        have : m ≠ n := fun e => e2 y hy (by rw [a1, e])
        simp [updV, this, a2]
      · exact ⟨n, rfl, by simp [updV]⟩
    · intro m u hu
      by_cases e : m = n
      · exact ⟨_, by simp only [Array.toList_push, List.mem_append, List.mem_singleton]; exact Or.inr rfl, by rw [e]⟩
      · simp only [updV, e, if_false] at hu
        obtain ⟨y, hy, ey⟩ := h2 m u hu
        exact ⟨y, by simp only [Array.toList_push, List.mem_append]; exact Or.inl hy, ey⟩
    · simp only [Array.toList_push, List.map_append, List.map_cons, List.map_nil]
      refine List.nodup_append.2 ⟨h3, by simp, fun a ha b' hb' => ?_⟩
      obtain ⟨y, hy, rfl⟩ := List.mem_map.1 ha
      rw [List.mem_singleton.1 hb']
      exact Nat.ne_of_lt (h4 y hy)
    · intro y hy
      simp only [Array.toList_push, List.mem_append, List.mem_singleton] at hy
      rcases hy with hy | rfl
      · exact Nat.lt_succ_of_lt (h4 y hy)
      · exact Nat.lt_succ_self _
    · simp only [Array.toList_push, List.map_append, List.map_cons, List.map_nil]
      refine List.nodup_append.2 ⟨h5, by simp, fun a ha b' hb' => ?_⟩
      obtain ⟨y, hy, rfl⟩ := List.mem_map.1 ha
      rw [List.mem_singleton.1 hb']
      exact e2 y hy
  · obtain ⟨m, a1, a2⟩ := h1 x (List.mem_of_getElem? e2)
    rw [a1] at e3
    injection e3 with _ e3
    subst e3
    rw [hf] at a2
    cases a2
theorem MapV.look {P : Program} {t k e : TypeId} (ht : P.underlying t = some (.map k e)) (hk : P.underlying k = some (.int .i64)) {w : World} {z : Value} (hz : (zeroValue e).run P w = .ok z w) {b : Nat} {f : Int → Option Value} (h : MapV w b f) (n : Int) :
    (Instr.lookup t (.map (some b)) (.int .i64 n) true).run P w = .ok (.tuple #[(f n).getD z, .bool (f n).isSome]) w := by
  obtain ⟨es, c, hb, h1, h2, _⟩ := h
  rcases MapKept.findNow_spec (d := .int .i64) (k := .int .i64 n) rfl es.toList 0 (keysV h1) with ⟨e1, e2⟩ | ⟨j, x, e1, e2, e3⟩
  · have hf : f n = none := by
      cases hf : f n with
      | none => rfl
      | some q =>
        obtain ⟨x, hx, ex⟩ := h2 n q hf
        exact absurd ex (e2 x hx)
    rw [hf]
    simp [Instr.lookup, run_underlying ht, MapKept.run_getObj_map hb, MapKept.run_checkKey hk (k := .int .i64 n) rfl, MapKept.run_findKey hk e1, hz, Result.andThen]
  · obtain ⟨m, a1, a2⟩ := h1 x (List.mem_of_getElem? e2)
    rw [a1] at e3
    injection e3 with _ e3
    subst e3
    rw [a2]
    simp [Instr.lookup, run_underlying ht, MapKept.run_getObj_map hb, MapKept.run_checkKey hk (k := .int .i64 m) rfl, MapKept.run_findKey hk e1, Result.andThen]
def orV (f g : Int → Option Value) : Int → Option Value := fun n => if (f n).isSome then f n else g n
def Iter (w : World) (b r : Nat) (f g : Int → Option Value) (left : Nat) : Prop :=
  ∃ es c since c0 seen, w.heap[b]? = some (.map es c) ∧ w.heap[r]? = some (.mapIter (some b) since seen c0) ∧ since ≤ c0 ∧ since ≤ c ∧ (∀ x ∈ es.toList, x.born < since) ∧ (es.toList.map (·.born)).Nodup ∧ (es.toList.map (·.key)).Nodup ∧ (leftOf es seen).size = left ∧
    (∀ x ∈ es.toList, ∃ n, x.key = .int .i64 n ∧ f n = some x.val) ∧ (∀ n v, f n = some v → ∃ x ∈ es.toList, x.key = .int .i64 n) ∧
    ∀ n v, g n = some v ↔ (f n = some v ∧ ∃ x ∈ es.toList, x.key = .int .i64 n ∧ seen.contains x.born = true)
def iterLeft (w : World) (b r : Nat) : Nat := match w.heap[b]?, w.heap[r]? with
  | some (.map es _), some (.mapIter _ _ seen _) => (leftOf es seen).size
  | _, _ => 0
theorem Iter.left_eq {w : World} {b r : Nat} {f g : Int → Option Value} {n : Nat} (h : Iter w b r f g n) : iterLeft w b r = n := by
  obtain ⟨es, c, since, c0, seen, h1, h2, _, _, _, _, _, h3, _⟩ := h
  simp only [iterLeft, h1, h2]; exact h3
theorem Iter.lt {w : World} {b r : Nat} {f g : Int → Option Value} {n : Nat} (h : Iter w b r f g n) : b < w.heap.size ∧ r < w.heap.size := by
  obtain ⟨es, c, since, c0, seen, h1, h2, _⟩ := h
  exact ⟨(Array.getElem?_eq_some_iff.1 h1).1, (Array.getElem?_eq_some_iff.1 h2).1⟩
theorem Iter.mod {S : List Nat} {w w' : World} {b r : Nat} {f g : Int → Option Value} {n : Nat} (h : Iter w b r f g n) (m : Mod S w w') (hb : b ∉ S) (hr : r ∉ S) : Iter w' b r f g n := by
  have hl := h.lt
  obtain ⟨es, c, since, c0, seen, h1, h2, h3⟩ := h
  exact ⟨es, c, since, c0, seen, (m.block b hl.1 hb).trans h1, (m.block r hl.2 hr).trans h2, h3⟩
theorem MapV.range {P : Program} {t k e : TypeId} (ht : P.underlying t = some (.map k e)) {w : World} {b : Nat} {f : Int → Option Value} (h : MapV w b f) :
    ∃ o, (Instr.range t (.map (some b))).run P w = .ok (.pointer (some ⟨w.heap.size, 0, none⟩)) (w.alloc o) ∧ ∃ n, Iter (w.alloc o) b w.heap.size f (fun _ => none) n := by
  have hl := h.lt
  obtain ⟨es, c, hb, h1, h2, h3, h4, h5⟩ := h
  refine ⟨_, run_range_map w t k e b es c ht hb, _, es, c, c, c, #[], ?_, (MapKept.heap_alloc w _).1, Nat.le_refl _, Nat.le_refl _, h4, h3, h5, rfl, h1, h2, fun n v => ?_⟩
  · exact ((MapKept.heap_alloc w _).2 b hl).trans hb
  · simp
theorem Iter.next {P : Program} {w : World} {b r : Nat} {f g : Int → Option Value} {n : Nat} (h : Iter w b r f g n) (ty : TypeId) :
    (g = f ∧ (Instr.next (.pointer (some ⟨r, 0, none⟩)) false ty).run P w = .ok (.tuple #[.bool false]) w) ∨
    ∃ k v w', f k = some v ∧ g k = none ∧ (Instr.next (.pointer (some ⟨r, 0, none⟩)) false ty).run P w = .ok (.tuple #[.bool true, .int .i64 k, v]) w' ∧
      (Instr.entry (.pointer (some ⟨r, 0, none⟩))).run P w' = .ok (.tuple #[.int .i64 k, v]) w' ∧ (∃ m, m < n ∧ Iter w' b r f (updV g k v) m) ∧ Mod [r] w w' := by
  obtain ⟨es, c, since, c0, seen, h1, h2, h3, h4, h5, h6, h7, h8, h9, h10, h11⟩ := h
  have hbr : b ≠ r := fun e => by subst e; rw [h1] at h2; cases h2
  rcases run_next_at (P := P) w ty r b since c0 seen es c h2 h1 h5 h3 with ⟨hz, hn⟩ | ⟨x, hx, w1, hw1, hn⟩
  · refine Or.inl ⟨funext fun k => Option.ext fun v => ?_, hn⟩
    rw [h11]
    refine ⟨fun h => h.1, fun hf => ⟨hf, ?_⟩⟩
    obtain ⟨x, hx, ex⟩ := h10 k v hf
    refine ⟨x, hx, ex, ?_⟩
    cases hs : seen.contains x.born with
    | true => rfl
    | false =>
      exfalso
      have hm : x ∈ (leftOf es seen).toList := Array.mem_toList_iff.2 (Array.mem_filter.2 ⟨Array.mem_toList_iff.1 hx, by rw [hs]; rfl⟩)
      have he : (leftOf es seen).toList = [] := by
        apply List.eq_nil_of_length_eq_zero
        rw [Array.length_toList]; exact hz
      rw [he] at hm
      cases hm
  · right
    obtain ⟨hx1, hx2⟩ := mem_left hx
    obtain ⟨k, hk, hv⟩ := h9 x hx1
    have e1 : w1.heap = w.heap := by rcases hw1 with rfl | rfl <;> rfl
    have hr1 : w1.heap[r]? = some (.mapIter (some b) since seen c0) := by rw [e1]; exact h2
    have hsz : r < w1.heap.size := (Array.getElem?_eq_some_iff.1 hr1).1
    have s1 : (setBlock w1 r (.mapIter (some b) since (seen.push x.born) c)).heap[r]? = some (.mapIter (some b) since (seen.push x.born) c) := by
      unfold setBlock; simp [hsz]
    have s2 : ∀ j, j ≠ r → (setBlock w1 r (.mapIter (some b) since (seen.push x.born) c)).heap[j]? = w.heap[j]? := fun j hj => by
      rw [← e1]; unfold setBlock; simp [Ne.symm hj]
    have s3 : (setBlock w1 r (.mapIter (some b) since (seen.push x.born) c)).heap[b]? = some (.map es c) := (s2 b hbr).trans h1
    have gk : g k = none := by
      cases hg : g k with
      | none => rfl
      | some u =>
      exfalso
      obtain ⟨_, y, hy, hyk, hys⟩ := (h11 k u).1 hg
      obtain rfl : y = x := by
        obtain ⟨i, hi⟩ := List.getElem?_of_mem hy
        obtain ⟨j, hj⟩ := List.getElem?_of_mem hx1
        have a1 : (es.toList.map (·.key))[i]? = some (.int .i64 k) := by rw [List.getElem?_map, hi, ← hyk]; rfl
        have a2 : (es.toList.map (·.key))[j]? = some (.int .i64 k) := by rw [List.getElem?_map, hj, ← hk]; rfl
        have hij := (List.getElem?_inj (by rw [List.length_map]; exact (List.getElem?_eq_some_iff.1 hi).1) h7).1 (a1.trans a2.symm)
        rw [hij, hj] at hi
        injection hi with hi
        exact hi.symm
      rw [hx2] at hys
      cases hys
    refine ⟨k, x.val, _, hv, gk, by rw [hn, hk], by rw [run_entry_at _ r b since seen es c x s1 s3 hx1 h6, hk], ⟨_, ?_, es, c, since, c, seen.push x.born, s3, s1, h4, h4, h5, h6, h7, rfl, h9, h10, fun m u => ?_⟩, ?_⟩
    · rw [← h8]; exact left_shrinks es seen x hx
    · unfold updV
      by_cases hm : m = k
      · subst hm
        rw [if_pos rfl]
        constructor
        · intro e
          injection e with e
          subst e
          exact ⟨hv, x, hx1, hk, by rw [contains_push]; simp⟩
        · rintro ⟨e, _⟩
          rw [← e, hv]
      · rw [if_neg hm, h11]
        constructor
        · rintro ⟨hf, y, hy, hyk, hys⟩
          exact ⟨hf, y, hy, hyk, by rw [contains_push, hys]; rfl⟩
        · rintro ⟨hf, y, hy, hyk, hys⟩
          refine ⟨hf, y, hy, hyk, ?_⟩
          rw [contains_push] at hys
          cases hs : seen.contains y.born with
          | true => rfl
          | false =>
            rw [hs] at hys
            have hb : y.born = x.born := by simpa using hys
            have : y = x := by
              obtain ⟨i, hi⟩ := List.getElem?_of_mem hy
              obtain ⟨j, hj⟩ := List.getElem?_of_mem hx1
              have a1 : (es.toList.map (·.born))[i]? = some x.born := by rw [List.getElem?_map, hi, ← hb]; rfl
              have a2 : (es.toList.map (·.born))[j]? = some x.born := by rw [List.getElem?_map, hj]; rfl
              have hij := (List.getElem?_inj (by rw [List.length_map]; exact (List.getElem?_eq_some_iff.1 hi).1) h6).1 (a1.trans a2.symm)
              rw [hij, hj] at hi
              injection hi with hi
              exact hi.symm
            rw [this, hk] at hyk
            injection hyk with _ hyk
            exact absurd hyk.symm hm
    · refine ⟨?_, ?_, ?_, ?_, fun j _ hj => s2 j (by simpa using hj)⟩ <;> rcases hw1 with rfl | rfl <;> first | rfl | (unfold setBlock; simp)
end Go.Proofs.YtifnkmddinoneaaGreatDoor
namespace Go.Proofs.YtifnkmddinoneaaGreatDoor
open Go.RowKit
set_option linter.unusedVariables false

/-- Block b is a map; it is the function f. -/
def MapU (w : World) (b : Nat) (f : Int → Option Value) : Prop :=
  ∃ es c, w.heap[b]? = some (.map es c) ∧ (∀ x ∈ es.toList, ∃ n, x.key = .int .u8 n ∧ f n = some x.val) ∧ (∀ n v, f n = some v → ∃ x ∈ es.toList, x.key = .int .u8 n) ∧ (es.toList.map (·.born)).Nodup ∧ (∀ x ∈ es.toList, x.born < c) ∧ (es.toList.map (·.key)).Nodup
theorem MapU.lt {w : World} {b : Nat} {f : Int → Option Value} (h : MapU w b f) : b < w.heap.size := by
  obtain ⟨es, c, h, _⟩ := h
  exact (Array.getElem?_eq_some_iff.1 h).1
theorem MapU.same {w w' : World} {b : Nat} {f : Int → Option Value} (h : MapU w b f) (e : w'.heap[b]? = w.heap[b]?) : MapU w' b f := by
  obtain ⟨es, c, h, h2⟩ := h
  exact ⟨es, c, e.trans h, h2⟩
theorem MapU.mod {w w' : World} {S : List Nat} {b : Nat} {f : Int → Option Value} (h : MapU w b f) (m : Mod S w w') (hb : b ∉ S) : MapU w' b f := h.same (m.block b h.lt hb)
theorem MapU.far {w w' : World} {b : Nat} {f : Int → Option Value} (h : MapU w b f) (m : Mod [] w w') : MapU w' b f := h.mod m (by simp)
theorem MapU.new (w : World) : MapU (w.alloc (.map #[] 0)) w.heap.size fun _ => none := ⟨#[], 0, (MapKept.heap_alloc w _).1, fun x hx => by simp at hx, (fun n v h => by cases h), by simp, (fun x hx => by simp at hx), by simp⟩
theorem keysU {es : List MapEntry} {f : Int → Option Value} (h : ∀ x ∈ es, ∃ n, x.key = .int .u8 n ∧ f n = some x.val) : ∀ x ∈ es, MapKept.IsKey (.int .u8) x.key := fun x hx => by
  obtain ⟨n, e, _⟩ := h x hx
  rw [e]; rfl
theorem MapU.put {P : Program} {t k e : TypeId} (ht : P.underlying t = some (.map k e)) (hk : P.underlying k = some (.int .u8)) {w : World} {b : Nat} {f : Int → Option Value} (h : MapU w b f) (n : Int) (v : Value) (hf : f n = none) :
    ∃ w', (Instr.mapUpdate t (.map (some b)) (.int .u8 n) v).run P w = .ok () w' ∧ MapU w' b (updV f n v) ∧ Mod [b] w w' := by
  obtain ⟨es, c, hb, h1, h2, h3, h4, h5⟩ := h
  rcases MapKept.findNow_spec (d := .int .u8) (k := .int .u8 n) rfl es.toList 0 (keysU h1) with ⟨e1, e2⟩ | ⟨j, x, e1, e2, e3⟩
  · refine ⟨_, by simp [Instr.mapUpdate, run_underlying ht, MapKept.run_getObj_map hb, MapKept.run_checkKey hk (k := .int .u8 n) rfl, MapKept.run_findKey hk e1, MapKept.run_setObj_map _ hb, Result.andThen]; rfl, ⟨_, _, (MapKept.heap_set hb).1, ?_, ?_, ?_, ?_, ?_⟩, map_mod hb⟩
    · intro y hy
      simp only [Array.toList_push, List.mem_append, List.mem_singleton] at hy
      rcases hy with hy | rfl
      · obtain ⟨m, a1, a2⟩ := h1 y hy
        refine ⟨m, a1, ?_⟩
        have : m ≠ n := fun e => e2 y hy (by rw [a1, e])
        simp [updV, this, a2]
      · exact ⟨n, rfl, by simp [updV]⟩
    · intro m u hu
      by_cases e : m = n
      · exact ⟨_, by simp only [Array.toList_push, List.mem_append, List.mem_singleton]; exact Or.inr rfl, by rw [e]⟩
      · simp only [updV, e, if_false] at hu
        obtain ⟨y, hy, ey⟩ := h2 m u hu
        exact ⟨y, by simp only [Array.toList_push, List.mem_append]; exact Or.inl hy, ey⟩
    · simp only [Array.toList_push, List.map_append, List.map_cons, List.map_nil]
      refine List.nodup_append.2 ⟨h3, by simp, fun a ha b' hb' => ?_⟩
      obtain ⟨y, hy, rfl⟩ := List.mem_map.1 ha
      rw [List.mem_singleton.1 hb']
      exact Nat.ne_of_lt (h4 y hy)
    · intro y hy
      simp only [Array.toList_push, List.mem_append, List.mem_singleton] at hy
      rcases hy with hy | rfl
      · exact Nat.lt_succ_of_lt (h4 y hy)
      · exact Nat.lt_succ_self _
    · simp only [Array.toList_push, List.map_append, List.map_cons, List.map_nil]
      refine List.nodup_append.2 ⟨h5, by simp, fun a ha b' hb' => ?_⟩
      obtain ⟨y, hy, rfl⟩ := List.mem_map.1 ha
      rw [List.mem_singleton.1 hb']
      exact e2 y hy
  · obtain ⟨m, a1, a2⟩ := h1 x (List.mem_of_getElem? e2)
    rw [a1] at e3
    injection e3 with _ e3
    subst e3
    rw [hf] at a2
    cases a2
theorem MapU.at {P : Program} {t k e : TypeId} (ht : P.underlying t = some (.map k e)) (hk : P.underlying k = some (.int .u8)) {w : World} {b : Nat} {f : Int → Option Value} (h : MapU w b f) (n : Int) (v : Value) (hv : f n = some v) :
    (Instr.lookup t (.map (some b)) (.int .u8 n) false).run P w = .ok v w := by
  obtain ⟨es, c, hb, h1, h2, _⟩ := h
  rcases MapKept.findNow_spec (d := .int .u8) (k := .int .u8 n) rfl es.toList 0 (keysU h1) with ⟨e1, e2⟩ | ⟨j, x, e1, e2, e3⟩
  · obtain ⟨x, hx, ex⟩ := h2 n v hv
    exact absurd ex (e2 x hx)
  · obtain ⟨m, a1, a2⟩ := h1 x (List.mem_of_getElem? e2)
    rw [a1] at e3
    injection e3 with _ e3
    subst e3
    rw [hv] at a2
    injection a2 with a2
    subst a2
    simp [Instr.lookup, run_underlying ht, MapKept.run_getObj_map hb, MapKept.run_checkKey hk (k := .int .u8 m) rfl, MapKept.run_findKey hk e1, Result.andThen]
theorem MapV.at {P : Program} {t k e : TypeId} (ht : P.underlying t = some (.map k e)) (hk : P.underlying k = some (.int .i64)) {w : World} {z : Value} (hz : (zeroValue e).run P w = .ok z w) {b : Nat} {f : Int → Option Value} (h : MapV w b f) (n : Int) :
    (Instr.lookup t (.map (some b)) (.int .i64 n) false).run P w = .ok ((f n).getD z) w := by
  obtain ⟨es, c, hb, h1, h2, _⟩ := h
  rcases MapKept.findNow_spec (d := .int .i64) (k := .int .i64 n) rfl es.toList 0 (keysV h1) with ⟨e1, e2⟩ | ⟨j, x, e1, e2, e3⟩
  · have hf : f n = none := by
      cases hf : f n with
      | none => rfl
      | some q =>
        obtain ⟨x, hx, ex⟩ := h2 n q hf
        exact absurd ex (e2 x hx)
    rw [hf]
    simp [Instr.lookup, run_underlying ht, MapKept.run_getObj_map hb, MapKept.run_checkKey hk (k := .int .i64 n) rfl, MapKept.run_findKey hk e1, hz, Result.andThen]
  · obtain ⟨m, a1, a2⟩ := h1 x (List.mem_of_getElem? e2)
    rw [a1] at e3
    injection e3 with _ e3
    subst e3
    rw [a2]
    simp [Instr.lookup, run_underlying ht, MapKept.run_getObj_map hb, MapKept.run_checkKey hk (k := .int .i64 m) rfl, MapKept.run_findKey hk e1, Result.andThen]
theorem mod_map {es : Array MapEntry} {j : Nat} {g : MapEntry → MapEntry} {α : Type} (p : MapEntry → α) (hp : ∀ e, es[j]? = some e → p (g e) = p e) : (es.modify j g).toList.map p = es.toList.map p := by
  apply List.ext_getElem?
  intro i
  simp only [List.getElem?_map, Array.getElem?_toList, Array.getElem?_modify]
  by_cases e : j = i
  · subst e
    simp only [if_true]
    cases h : es[j]? with
    | none => rfl
    | some x => simp [hp x h]
  · simp [e]
theorem mem_modify {es : Array MapEntry} {j : Nat} {g : MapEntry → MapEntry} {y : MapEntry} (h : y ∈ (es.modify j g).toList) : (∃ x, es[j]? = some x ∧ y = g x) ∨ ∃ i, i ≠ j ∧ es[i]? = some y := by
  obtain ⟨i, hi⟩ := List.mem_iff_getElem?.1 h
  rw [Array.getElem?_toList, Array.getElem?_modify] at hi
  by_cases e : j = i
  · subst e
    simp only [if_true] at hi
    obtain ⟨x, h1, h2⟩ := Option.map_eq_some_iff.1 hi
    exact Or.inl ⟨x, h1, h2.symm⟩
  · rw [if_neg e] at hi
    exact Or.inr ⟨i, fun x => e x.symm, hi⟩
theorem MapV.upd {P : Program} {t k e : TypeId} (ht : P.underlying t = some (.map k e)) (hk : P.underlying k = some (.int .i64)) {w : World} {b : Nat} {f : Int → Option Value} (h : MapV w b f) (n : Int) (u v : Value) (hf : f n = some u) :
    ∃ w', (Instr.mapUpdate t (.map (some b)) (.int .i64 n) v).run P w = .ok () w' ∧ MapV w' b (updV f n v) ∧ Mod [b] w w' := by
  obtain ⟨es, c, hb, h1, h2, h3, h4, h5⟩ := h
  rcases MapKept.findNow_spec (d := .int .i64) (k := .int .i64 n) rfl es.toList 0 (keysV h1) with ⟨e1, e2⟩ | ⟨j, x, e1, e2, e3⟩
  · obtain ⟨x, hx, ex⟩ := h2 n u hf
    exact absurd ex (e2 x hx)
  · rw [Nat.zero_add] at e1
    have e2' : es[j]? = some x := by simpa using e2
    have hx : x ∈ es.toList := List.mem_of_getElem? e2
    have hkey : ((es[j]?).map (·.key)).getD (.int .i64 n) = .int .i64 n := by rw [e2']; exact e3
    obtain ⟨es', hes⟩ : ∃ es', es' = es.modify j fun e => { e with key := .int .i64 n, val := v } := ⟨_, rfl⟩
    have hk2 : es'.toList.map (·.key) = es.toList.map (·.key) := by
      rw [hes]; exact mod_map _ fun e he => by rw [e2'] at he; injection he with he; subst he; exact e3.symm
    have hb2 : es'.toList.map (·.born) = es.toList.map (·.born) := by rw [hes]; exact mod_map _ fun e he => rfl
    refine ⟨{ w with heap := w.heap.setIfInBounds b (.map es' c) }, ?_, ⟨_, _, (MapKept.heap_set hb).1, ?_, ?_, ?_, ?_, ?_⟩, map_mod hb⟩
    · rw [hes]
      simp [Instr.mapUpdate, run_underlying ht, MapKept.run_getObj_map hb, MapKept.run_checkKey hk (k := .int .i64 n) rfl, MapKept.run_findKey hk e1, MapKept.run_setObj_map _ hb, Result.andThen, hkey, MapKept.run_keyThatStays (d := .int .i64) (k := .int .i64 n) rfl]
    · intro y hy
      rw [hes] at hy
      rcases mem_modify hy with ⟨z, hz, rfl⟩ | ⟨i, hi, hyi⟩
      · exact ⟨n, rfl, by simp [updV]⟩
      · have hm : y ∈ es.toList := List.mem_of_getElem? (i := i) (by simpa using hyi)
        obtain ⟨m, a1, a2⟩ := h1 y hm
        refine ⟨m, a1, ?_⟩
        have : m ≠ n := fun e => by
          subst e
          have g1 : (es.toList.map (·.key))[i]? = some (.int .i64 m) := by rw [List.getElem?_map, Array.getElem?_toList, hyi]; simp [a1]
          have g2 : (es.toList.map (·.key))[j]? = some (.int .i64 m) := by rw [List.getElem?_map, Array.getElem?_toList, e2']; simp [e3]
          have hl := (List.getElem?_eq_some_iff.1 g1).1
          exact hi ((List.getElem?_inj hl h5).1 (g1.trans g2.symm))
        simp [updV, this, a2]
    · intro m q hq
      have hk3 : ∀ m, (∃ x ∈ es.toList, x.key = .int .i64 m) → ∃ x ∈ es'.toList, x.key = .int .i64 m := fun m ⟨y, hy, ey⟩ => by
        have : Value.int .i64 m ∈ es'.toList.map (·.key) := by rw [hk2]; exact List.mem_map.2 ⟨y, hy, ey⟩
        obtain ⟨z, hz, ez⟩ := List.mem_map.1 this
        exact ⟨z, hz, ez⟩
      by_cases e : m = n
      · subst e; exact hk3 m (h2 m u hf)
      · simp only [updV, e, if_false] at hq
        exact hk3 m (h2 m q hq)
    · rw [hb2]; exact h3
    · intro y hy
      have : y.born ∈ es.toList.map (·.born) := by rw [← hb2]; exact List.mem_map.2 ⟨y, hy, rfl⟩
      obtain ⟨z, hz, ez⟩ := List.mem_map.1 this
      rw [← ez]; exact h4 z hz
    · rw [hk2]; exact h5
end Go.Proofs.YtifnkmddinoneaaGreatDoor
