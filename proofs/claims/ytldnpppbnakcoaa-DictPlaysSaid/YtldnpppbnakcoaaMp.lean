/- Maps from whole numbers to pointers to blocks, as functions: look-up, store, delete. No condition. -/
import Derived.Test.YtldnpppbnakcoaaS6A
namespace Go.Proofs.Ytldnpppbnakcoaa
open Go.RowKit
set_option linter.unusedVariables false

abbrev PtW (p : Nat) : Value := .pointer (some ⟨p, 0, none⟩)
def ptO : Option Nat → Value
  | some q => PtW q
  | none => .pointer none
/-- Block b is a map; it is the function f. -/
def MapP (w : World) (b : Nat) (f : Int → Option Nat) : Prop :=
  ∃ es c, w.heap[b]? = some (.map es c) ∧ (es.toList.map (·.key)).Nodup ∧ (∀ x ∈ es.toList, ∃ n q, x.key = .int .i64 n ∧ x.val = PtW q ∧ f n = some q) ∧ ∀ n q, f n = some q → ∃ x ∈ es.toList, x.key = .int .i64 n
theorem MapP.lt {w : World} {b : Nat} {f : Int → Option Nat} (h : MapP w b f) : b < w.heap.size := by
  obtain ⟨es, c, h, _⟩ := h
  exact (Array.getElem?_eq_some_iff.1 h).1
theorem MapP.mod {w w' : World} {S : List Nat} {b : Nat} {f : Int → Option Nat} (h : MapP w b f) (m : Mod S w w') (hb : b ∉ S) : MapP w' b f := by
  have hl := h.lt
  obtain ⟨es, c, h, h2⟩ := h
  exact ⟨es, c, (m.block b hl hb).trans h, h2⟩
theorem MapP.congr {w : World} {b : Nat} {f g : Int → Option Nat} (h : MapP w b f) (e : ∀ n, f n = g n) : MapP w b g := by
  rw [← funext e]; exact h
theorem keys_of {es : List MapEntry} {f : Int → Option Nat} (h : ∀ x ∈ es, ∃ n q, x.key = .int .i64 n ∧ x.val = PtW q ∧ f n = some q) : ∀ x ∈ es, MapKept.IsKey (.int .i64) x.key := fun x hx => by
  obtain ⟨n, q, e, _⟩ := h x hx
  rw [e]; rfl
theorem map_mod {w : World} {b : Nat} {es es' : Array MapEntry} {c c' : Nat} (h : w.heap[b]? = some (.map es c)) : Mod [b] w { w with heap := w.heap.setIfInBounds b (.map es' c') } :=
  ⟨rfl, rfl, rfl, by simp, fun k _ hk => (MapKept.heap_set h).2 k (by simpa using hk)⟩
theorem MapP.look {P : Program} {t k e : TypeId} (ht : P.underlying t = some (.map k e)) (hk : P.underlying k = some (.int .i64)) {w : World} (hz : (zeroValue e).run P w = .ok (.pointer none) w) {b : Nat} {f : Int → Option Nat} (h : MapP w b f) (n : Int) :
    (Instr.lookup t (.map (some b)) (.int .i64 n) false).run P w = .ok (ptO (f n)) w := by
  obtain ⟨es, c, hb, hn, h1, h2⟩ := h
  rcases MapKept.findNow_spec (d := .int .i64) (k := .int .i64 n) rfl es.toList 0 (keys_of h1) with ⟨e1, e2⟩ | ⟨j, x, e1, e2, e3⟩
  · have hf : f n = none := by
      cases hf : f n with
      | none => rfl
      | some q =>
        obtain ⟨x, hx, ex⟩ := h2 n q hf
        exact absurd ex (e2 x hx)
    rw [hf]
    simp [Instr.lookup, run_underlying ht, MapKept.run_getObj_map hb, MapKept.run_checkKey hk (k := .int .i64 n) rfl, MapKept.run_findKey hk e1, hz, Result.andThen, ptO]
  · obtain ⟨m, q, a1, a2, a3⟩ := h1 x (List.mem_of_getElem? e2)
    have em : m = n := by rw [a1] at e3; injection e3
    subst em
    rw [a3]
    simp [Instr.lookup, run_underlying ht, MapKept.run_getObj_map hb, MapKept.run_checkKey hk (k := .int .i64 m) rfl, MapKept.run_findKey hk e1, Result.andThen, ptO, a2]
theorem MapP.put {P : Program} {t k e : TypeId} (ht : P.underlying t = some (.map k e)) (hk : P.underlying k = some (.int .i64)) {w : World} {b : Nat} {f : Int → Option Nat} (h : MapP w b f) (n : Int) (q : Nat) :
    ∃ w', (Instr.mapUpdate t (.map (some b)) (.int .i64 n) (PtW q)).run P w = .ok () w' ∧ MapP w' b (fun m => if m = n then some q else f m) ∧ Mod [b] w w' := by
  obtain ⟨es, c, hb, hn, h1, h2⟩ := h
  rcases MapKept.findNow_spec (d := .int .i64) (k := .int .i64 n) rfl es.toList 0 (keys_of h1) with ⟨e1, e2⟩ | ⟨j, x, e1, e2, e3⟩
  · refine ⟨_, by simp [Instr.mapUpdate, run_underlying ht, MapKept.run_getObj_map hb, MapKept.run_checkKey hk (k := .int .i64 n) rfl, MapKept.run_findKey hk e1, MapKept.run_setObj_map _ hb, Result.andThen]; rfl, ⟨_, _, (MapKept.heap_set hb).1, ?_, ?_, ?_⟩, map_mod hb⟩
    · simp only [Array.toList_push, List.map_append, List.map_cons, List.map_nil]
      refine List.nodup_append.2 ⟨hn, by simp, fun a ha b' hb' => ?_⟩
      obtain ⟨y, hy, rfl⟩ := List.mem_map.1 ha
      rw [List.mem_singleton.1 hb']
      exact e2 y hy
    · intro y hy
      simp only [Array.toList_push, List.mem_append, List.mem_singleton] at hy
      rcases hy with hy | rfl
      · obtain ⟨m, p, a1, a2, a3⟩ := h1 y hy
        refine ⟨m, p, a1, a2, ?_⟩
        have : m ≠ n := fun e => e2 y hy (by rw [a1, e])
        simp [this, a3]
      · exact ⟨n, q, rfl, rfl, by simp⟩
    · intro m p hp
      by_cases e : m = n
      · exact ⟨_, by simp only [Array.toList_push, List.mem_append, List.mem_singleton]; exact Or.inr rfl, by rw [e]⟩
      · simp only [e, if_false] at hp
        obtain ⟨y, hy, ey⟩ := h2 m p hp
        exact ⟨y, by simp only [Array.toList_push, List.mem_append]; exact Or.inl hy, ey⟩
  · have hj : es[j]? = some x := by simpa using e2
    have hlt : j < es.size := (Array.getElem?_eq_some_iff.1 hj).1
    have hjx : es[j] = x := (Array.getElem?_eq_some_iff.1 hj).2
    have hgl : (es.modify j fun e => { e with key := Value.int .i64 n, val := PtW q }).toList = es.toList.set j ⟨.int .i64 n, PtW q, x.born⟩ := by
      apply List.ext_getElem?
      intro i
      simp only [Array.getElem?_toList, Array.getElem?_modify, List.getElem?_set]
      by_cases hij : j = i
      · subst hij
        simp [hlt, hjx]
      · simp [hij]
    have hkeys : (es.toList.set j ⟨.int .i64 n, PtW q, x.born⟩).map (·.key) = es.toList.map (·.key) := by
      rw [List.map_set]
      apply List.ext_getElem?
      intro i
      simp only [List.getElem?_set, List.getElem?_map, List.length_map]
      by_cases hij : j = i
      · subst hij
        simp [hlt, hjx, e3]
      · simp [hij]
    refine ⟨_, by simp [Instr.mapUpdate, run_underlying ht, MapKept.run_getObj_map hb, MapKept.run_checkKey hk (k := .int .i64 n) rfl, MapKept.run_findKey hk e1, hj, e3, MapKept.run_keyThatStays (d := .int .i64) (k := .int .i64 n) rfl, MapKept.run_setObj_map _ hb, Result.andThen]; rfl, ⟨_, _, (MapKept.heap_set hb).1, ?_, ?_, ?_⟩, map_mod hb⟩
    · rw [hgl, hkeys]; exact hn
    · rw [hgl]
      intro y hy
      obtain ⟨i, hi⟩ := List.mem_iff_getElem?.1 hy
      rw [List.getElem?_set] at hi
      by_cases hij : j = i
      · subst hij
        simp [hlt] at hi
        subst hi
        exact ⟨n, q, rfl, rfl, by simp⟩
      · simp only [hij, if_false] at hi
        obtain ⟨m, p, a1, a2, a3⟩ := h1 y (List.mem_of_getElem? hi)
        refine ⟨m, p, a1, a2, ?_⟩
        have : m ≠ n := fun e => by
          have hx : (es.toList.map (·.key))[j]? = some (.int .i64 n) := by rw [List.getElem?_map, e2]; simp [e3]
          have hy2 : (es.toList.map (·.key))[i]? = some (.int .i64 n) := by rw [List.getElem?_map, hi]; simp [a1, e]
          exact hij ((List.getElem?_inj (by simpa using hlt) hn).1 (hx.trans hy2.symm))
        simp [this, a3]
    · intro m p hp
      have hmem : ∀ v, v ∈ es.toList.map (·.key) → ∃ y ∈ es.toList.set j ⟨.int .i64 n, PtW q, x.born⟩, y.key = v := fun v hv => by
        rw [← hkeys] at hv
        obtain ⟨y, hy, e⟩ := List.mem_map.1 hv
        exact ⟨y, hy, e⟩
      rw [hgl]
      by_cases e : m = n
      · refine hmem _ ?_
        rw [e, ← e3]
        exact List.mem_map.2 ⟨x, List.mem_of_getElem? e2, rfl⟩
      · simp only [e, if_false] at hp
        obtain ⟨y, hy, ey⟩ := h2 m p hp
        exact hmem _ (by rw [← ey]; exact List.mem_map.2 ⟨y, hy, rfl⟩)
theorem MapP.cut {P : Program} {t k e : TypeId} (ht : P.underlying t = some (.map k e)) (hk : P.underlying k = some (.int .i64)) {w : World} {b : Nat} {f : Int → Option Nat} (h : MapP w b f) (n : Int) (kt ty : TypeId) :
    ∃ w', (Builtin.delete_ #[t, kt] ty #[.map (some b), .int .i64 n]).run P w = .ok (.tuple #[]) w' ∧ MapP w' b (fun m => if m = n then none else f m) ∧ Mod [b] w w' := by
  obtain ⟨es, c, hb, hn, h1, h2⟩ := h
  rcases MapKept.findNow_spec (d := .int .i64) (k := .int .i64 n) rfl es.toList 0 (keys_of h1) with ⟨e1, e2⟩ | ⟨j, x, e1, e2, e3⟩
  · refine ⟨_, by simp [Builtin.delete_, run_underlying ht, MapKept.run_getObj_map hb, MapKept.run_checkKey hk (k := .int .i64 n) rfl, MapKept.run_findKey hk e1, MapKept.run_setObj_map _ hb, Result.andThen]; rfl, ⟨_, _, (MapKept.heap_set hb).1, hn, ?_, ?_⟩, map_mod hb⟩
    · intro y hy
      obtain ⟨m, p, a1, a2, a3⟩ := h1 y hy
      refine ⟨m, p, a1, a2, ?_⟩
      have : m ≠ n := fun e => e2 y hy (by rw [a1, e])
      simp [this, a3]
    · intro m p hp
      by_cases e : m = n
      · simp [e] at hp
      · simp only [e, if_false] at hp
        exact h2 m p hp
  · have hj : es[j]? = some x := by simpa using e2
    have hlt : j < es.size := (Array.getElem?_eq_some_iff.1 hj).1
    have hgl : (es.eraseIdxIfInBounds j).toList = es.toList.eraseIdx j := by
      unfold Array.eraseIdxIfInBounds
      rw [dif_pos hlt, Array.toList_eraseIdx]
    have hkx : (es.toList.map (·.key))[j]? = some (.int .i64 n) := by rw [List.getElem?_map, e2]; simp [e3]
    refine ⟨_, by simp [Builtin.delete_, run_underlying ht, MapKept.run_getObj_map hb, MapKept.run_checkKey hk (k := .int .i64 n) rfl, MapKept.run_findKey hk e1, MapKept.run_setObj_map _ hb, Result.andThen]; rfl, ⟨_, _, (MapKept.heap_set hb).1, ?_, ?_, ?_⟩, map_mod hb⟩
    · rw [hgl]
      exact hn.sublist ((List.eraseIdx_sublist _ _).map _)
    · rw [hgl]
      intro y hy
      obtain ⟨i, hij, hi⟩ := List.mem_eraseIdx_iff_getElem?.1 hy
      obtain ⟨m, p, a1, a2, a3⟩ := h1 y (List.mem_of_getElem? hi)
      refine ⟨m, p, a1, a2, ?_⟩
      have : m ≠ n := fun e => by
        have hy2 : (es.toList.map (·.key))[i]? = some (.int .i64 n) := by rw [List.getElem?_map, hi]; simp [a1, e]
        exact hij ((List.getElem?_inj (by simpa using (List.getElem?_eq_some_iff.1 hi).1) hn).1 (hy2.trans hkx.symm))
      simp [this, a3]
    · intro m p hp
      by_cases e : m = n
      · simp [e] at hp
      · simp only [e, if_false] at hp
        obtain ⟨y, hy, ey⟩ := h2 m p hp
        refine ⟨y, ?_, ey⟩
        rw [hgl]
        obtain ⟨i, hi⟩ := List.mem_iff_getElem?.1 hy
        refine List.mem_eraseIdx_iff_getElem?.2 ⟨i, fun hij => ?_, hi⟩
        rw [hij, e2] at hi
        injection hi with hi
        rw [← hi, e3] at ey
        injection ey with _ ey
        exact e ey.symm
theorem MapP.new (w : World) : MapP (w.alloc (.map #[] 0)) w.heap.size fun _ => none :=
  ⟨_, _, (MapKept.heap_alloc w _).1, by simp, by simp, fun n q h => by cases h⟩
end Go.Proofs.Ytldnpppbnakcoaa
