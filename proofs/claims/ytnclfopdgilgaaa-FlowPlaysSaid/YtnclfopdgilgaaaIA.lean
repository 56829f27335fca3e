/- Layer 10: instructions in a row: their ways, what is reached, how many loops are open. No condition. -/
import Derived.Test.YtnclfopdgilgaaaS6A
namespace Go.Proofs.Ytnclfopdgilgaaa
set_option linter.unusedVariables false

/-- An instruction. -/
structure Xi where
  op : Nat
  a : Int
  w : Int
deriving DecidableEq, Inhabited
/-- Where it leads, from the index i, and how many loops more are open there. -/
def waysX (x : Xi) (i : Nat) : List (Int × Int) :=
  if x.op = 3 then [(x.a, 0)] else if x.op = 9 then [(x.a, -1)] else if x.op = 4 ∨ x.op = 10 then [((i : Int) + 1, 0), (x.a, 0)]
  else if x.op = 6 then [((i : Int) + 1, 1), (x.a, 0)] else if x.op = 7 ∨ x.op = 8 then [((i : Int) + 1, -1), (x.a, 0)]
  else if x.op = 5 then [((i : Int) + 1, 1)] else if x.op = 15 then [] else [((i : Int) + 1, 0)]
theorem ways_two (x : Xi) (i : Nat) : (waysX x i).length ≤ 2 := by
  unfold waysX
  repeat' split
  all_goals simp
theorem ways_more (x : Xi) (i : Nat) : ∀ tm ∈ waysX x i, -1 ≤ tm.2 ∧ tm.2 ≤ 1 := by
  unfold waysX
  intro tm h
  repeat' split at h
  all_goals simp at h
  all_goals first | (obtain rfl := h; simp; done) | (rcases h with rfl | rfl <;> simp)
/-- What is reached, with how many loops open. -/
inductive Rh (L : List Xi) : Int → Int → Prop
  | start : Rh L 0 0
  | step {n : Int} {k : Nat} {x : Xi} {tm : Int × Int} : Rh L k n → L[k]? = some x → tm ∈ waysX x k → Rh L tm.1 (n + tm.2)
/-- No numbers are there. -/
def Bad (L : List Xi) : Prop := ∃ i n, Rh L i n ∧ (n < 0 ∨ i < 0 ∨ (L.length : Int) ≤ i ∨ ∃ m, Rh L i m ∧ m ≠ n)
/-- All these ways are right. -/
def Cl (o : List Int) (v : Int) (ws : List (Int × Int)) : Prop := ∀ tm ∈ ws, ∃ t : Nat, tm.1 = t ∧ o[t]? = some (v + tm.2) ∧ 0 ≤ v + tm.2
/-- The numbers. -/
structure Lab (L : List Xi) (o : List Int) : Prop where
  len : o.length = L.length
  pos : 0 < L.length
  zero : o[0]? = some 0
  rh : ∀ (k : Nat) v, o[k]? = some v → v ≠ -1 → Rh L k v
  low : ∀ v ∈ o, -1 ≤ v ∧ v ≤ o.length
  cl : ∀ (k : Nat) v x, o[k]? = some v → v ≠ -1 → L[k]? = some x → Cl o v (waysX x k)
theorem Lab.reach {L : List Xi} {o : List Int} (h : Lab L o) {i n : Int} (r : Rh L i n) : ∃ k : Nat, i = k ∧ o[k]? = some n ∧ 0 ≤ n := by
  induction r with
  | start => exact ⟨0, rfl, h.zero, by omega⟩
  | step r hx hw ih =>
    obtain ⟨k', e, h1, h2⟩ := ih
    have e := Int.ofNat.inj e
    subst e
    exact h.cl _ _ _ h1 (by omega) hx _ hw
theorem Lab.good {L : List Xi} {o : List Int} (h : Lab L o) : ¬ Bad L := by
  rintro ⟨i, n, r, hb⟩
  obtain ⟨k, rfl, h1, h2⟩ := h.reach r
  have hk := (List.getElem?_eq_some_iff.1 h1).1
  rw [h.len] at hk
  rcases hb with hb | hb | hb | ⟨m, rm, hm⟩
  · omega
  · omega
  · omega
  · obtain ⟨k', e, h3, _⟩ := h.reach rm
    have e := Int.ofNat.inj e
    subst e
    rw [h1] at h3
    injection h3 with h3
    exact hm h3.symm
theorem Lab.same {L : List Xi} {o p : List Int} (h : Lab L o) (g : Lab L p) : o = p := by
  apply List.ext_getElem?
  intro k
  by_cases hk : k < L.length
  · have h1 : o[k]? = some (o[k]'(by rw [h.len]; exact hk)) := List.getElem?_eq_getElem _
    have h2 : p[k]? = some (p[k]'(by rw [g.len]; exact hk)) := List.getElem?_eq_getElem _
    generalize o[k]'(by rw [h.len]; exact hk) = v at h1
    generalize p[k]'(by rw [g.len]; exact hk) = u at h2
    by_cases hv : v = -1
    · by_cases hu : u = -1
      · rw [h1, h2, hv, hu]
      · obtain ⟨k', e, h3, h4⟩ := h.reach (g.rh k u h2 hu)
        have e := Int.ofNat.inj e
        subst e
        rw [h1] at h3
        injection h3 with h3
        omega
    · obtain ⟨k', e, h3, h4⟩ := g.reach (h.rh k v h1 hv)
      have e := Int.ofNat.inj e
      subst e
      rw [h1, h3]
  · rw [List.getElem?_eq_none (by rw [h.len]; omega), List.getElem?_eq_none (by rw [g.len]; omega)]
/-- How many have no number yet. -/
def cnt (o : List Int) : Nat := o.countP (· = -1)
theorem cnt_set {o : List Int} {t : Nat} {v : Int} (h : o[t]? = some (-1)) (hv : v ≠ -1) : cnt (o.set t v) + 1 = cnt o := by
  induction o generalizing t with
  | nil => simp at h
  | cons a r ih =>
    cases t with
    | zero =>
      simp at h
      subst h
      simp [cnt, hv]
    | succ t =>
      have := ih (t := t) (by simpa using h)
      simp only [cnt, List.set_cons_succ, List.countP_cons] at this ⊢
      omega
theorem cnt_le (o : List Int) : cnt o ≤ o.length := List.countP_le_length
/-- What is so at each moment. -/
structure Bs (L : List Xi) (o : List Int) : Prop where
  len : o.length = L.length
  pos : 0 < L.length
  zero : o[0]? = some 0
  rh : ∀ (k : Nat) v, o[k]? = some v → v ≠ -1 → Rh L k v
  low : ∀ v ∈ o, -1 ≤ v ∧ v + (cnt o : Int) < o.length
theorem Bs.start {L : List Xi} {n : Nat} (hn : n = L.length) (h : 0 < n) : Bs L ((List.replicate n (-1)).set 0 0) := by
  obtain ⟨k, rfl⟩ : ∃ k, n = k + 1 := ⟨n - 1, by omega⟩
  have e : (List.replicate (k + 1) (-1 : Int)).set 0 0 = 0 :: List.replicate k (-1) := rfl
  rw [e]
  refine ⟨by simp [hn], by omega, rfl, fun j v hj hv => ?_, fun v hv => ?_⟩
  · cases j with
    | zero => simp at hj; subst hj; exact Rh.start
    | succ j =>
      rw [List.getElem?_cons_succ, List.getElem?_replicate] at hj
      split at hj
      · injection hj with hj; exact absurd hj.symm hv
      · cases hj
  · have c : cnt (0 :: List.replicate k (-1)) = k := by simp [cnt, List.countP_replicate]
    rw [c]
    rcases List.mem_cons.1 hv with rfl | hv
    · simp; omega
    · have := (List.mem_replicate.1 hv).2
      subst this
      simp; omega
theorem Bs.get {L : List Xi} {o : List Int} (h : Bs L o) {k : Nat} {v : Int} (hk : o[k]? = some v) : -1 ≤ v ∧ v + (cnt o : Int) < o.length := h.low v (List.mem_of_getElem? hk)
theorem Bs.set {L : List Xi} {o : List Int} (h : Bs L o) {i : Nat} {n : Int} {x : Xi} {tm : Int × Int} (hi : o[i]? = some n) (hn : n ≠ -1) (hx : L[i]? = some x) (hw : tm ∈ waysX x i) {t : Nat} (ht : tm.1 = t) (h0 : 0 ≤ n + tm.2) (hf : o[t]? = some (-1)) : Bs L (o.set t (n + tm.2)) := by
  have c := cnt_set hf (show n + tm.2 ≠ -1 by omega)
  have hm := ways_more x i tm hw
  refine ⟨by rw [List.length_set]; exact h.len, h.pos, ?_, fun k v hk hv => ?_, fun v hv => ?_⟩
  · rw [List.getElem?_set_ne]
    · exact h.zero
    · intro e; subst e; rw [h.zero] at hf; injection hf with hf; omega
  · by_cases e : t = k
    · subst e
      rw [List.getElem?_set_self (List.getElem?_eq_some_iff.1 hf).1] at hk
      injection hk with hk
      subst hk
      rw [← ht]
      exact Rh.step (h.rh i n hi hn) hx hw
    · rw [List.getElem?_set_ne e] at hk
      exact h.rh k v hk hv
  · rw [List.length_set]
    rcases List.mem_or_eq_of_mem_set hv with hv | rfl
    · have := h.low v hv; omega
    · have := h.get hi; omega
theorem Bs.bad {L : List Xi} {o : List Int} (h : Bs L o) {i : Nat} {n : Int} {x : Xi} {tm : Int × Int} (hi : o[i]? = some n) (hn : n ≠ -1) (hx : L[i]? = some x) (hw : tm ∈ waysX x i) (hb : n + tm.2 < 0 ∨ tm.1 < 0 ∨ (o.length : Int) ≤ tm.1 ∨ ∃ (t : Nat) (v : Int), tm.1 = t ∧ o[t]? = some v ∧ v ≠ -1 ∧ v ≠ n + tm.2) : Bad L := by
  refine ⟨tm.1, n + tm.2, Rh.step (h.rh i n hi hn) hx hw, ?_⟩
  rw [h.len] at hb
  rcases hb with hb | hb | hb | ⟨t, v, ht, hv, h1, h2⟩
  · exact Or.inl hb
  · exact Or.inr (Or.inl hb)
  · exact Or.inr (Or.inr (Or.inl hb))
  · refine Or.inr (Or.inr (Or.inr ⟨v, ?_, h2⟩))
    rw [ht]
    exact h.rh t v hv h1
theorem bad_nil : Bad [] := ⟨0, 0, Rh.start, Or.inr (Or.inr (Or.inl (by simp)))⟩
theorem Cl.set {o : List Int} {v : Int} {ws : List (Int × Int)} (h : Cl o v ws) {t : Nat} {u : Int} (hf : o[t]? = some (-1)) : Cl (o.set t u) v ws := fun tm hm => by
  obtain ⟨k, e, h1, h2⟩ := h tm hm
  refine ⟨k, e, ?_, h2⟩
  rw [List.getElem?_set_ne]
  · exact h1
  · intro e2; subst e2; rw [hf] at h1; injection h1 with h1; omega
theorem Cl.nil (o : List Int) (v : Int) : Cl o v [] := fun _ h => by cases h
theorem Cl.snoc {o : List Int} {v : Int} {ws : List (Int × Int)} (h : Cl o v ws) {tm : Int × Int} {t : Nat} (ht : tm.1 = t) (h1 : o[t]? = some (v + tm.2)) (h0 : 0 ≤ v + tm.2) : Cl o v (ws ++ [tm]) := fun q hq => by
  rcases List.mem_append.1 hq with hq | hq
  · exact h q hq
  · obtain rfl := List.mem_singleton.1 hq
    exact ⟨t, ht, h1, h0⟩
theorem Bs.lab {L : List Xi} {o : List Int} (h : Bs L o) (hc : ∀ (k : Nat) v x, o[k]? = some v → v ≠ -1 → L[k]? = some x → Cl o v (waysX x k)) : Lab L o :=
  ⟨h.len, h.pos, h.zero, h.rh, fun v hv => by have := h.low v hv; omega, hc⟩
/-- The program's search: l is still to be visited; of i the first k ways are gone. -/
structure Sr1 (L : List Xi) (o : List Int) (l : List Nat) (i k : Nat) : Prop where
  b : Bs L o
  hl : ∀ j ∈ l, ∃ v, o[j]? = some v ∧ v ≠ -1
  hi : ∃ v, o[i]? = some v ∧ v ≠ -1
  hc : ∀ (j : Nat) v x, o[j]? = some v → v ≠ -1 → L[j]? = some x → j ∈ l ∨ Cl o v ((waysX x j).take (if j = i then k else 2))
theorem Sr1.start {L : List Xi} {n : Nat} (hn : n = L.length) (h : 0 < n) : Sr1 L ((List.replicate n (-1)).set 0 0) [0] 0 2 := by
  have b := Bs.start hn h
  refine ⟨b, fun j hj => ?_, ⟨0, b.zero, by omega⟩, fun j v x hj hv hx => ?_⟩
  · obtain rfl := List.mem_singleton.1 hj
    exact ⟨0, b.zero, by omega⟩
  · refine Or.inl ?_
    rw [List.mem_singleton]
    by_cases e : j = 0
    · exact e
    · rw [List.getElem?_set_ne (by omega), List.getElem?_replicate] at hj
      split at hj
      · injection hj with hj; exact absurd hj.symm hv
      · cases hj
theorem take_two {x : Xi} {j : Nat} : (waysX x j).take 2 = waysX x j := List.take_of_length_le (ways_two x j)
theorem Sr1.open {L : List Xi} {o : List Int} {l : List Nat} {i' i : Nat} (h : Sr1 L o (l ++ [i]) i' 2) : Sr1 L o l i 0 := by
  refine ⟨h.b, fun j hj => h.hl j (List.mem_append_left _ hj), h.hl i (by simp), fun j v x hj hv hx => ?_⟩
  by_cases e : j = i
  · subst e
    right
    rw [if_pos rfl]
    exact Cl.nil _ _
  · rw [if_neg e]
    rcases h.hc j v x hj hv hx with hl | hl
    · rcases List.mem_append.1 hl with hl | hl
      · exact Or.inl hl
      · exact absurd (List.mem_singleton.1 hl) e
    · right
      simpa using hl
theorem Sr1.shut {L : List Xi} {o : List Int} {l : List Nat} {i k : Nat} {x : Xi} (h : Sr1 L o l i k) (hx : L[i]? = some x) (hk : (waysX x i).length ≤ k) : Sr1 L o l i 2 := by
  refine ⟨h.b, h.hl, h.hi, fun j v y hj hv hy => ?_⟩
  rcases h.hc j v y hj hv hy with hl | hl
  · exact Or.inl hl
  · right
    by_cases e : j = i
    · subst e
      rw [hx] at hy
      injection hy with hy
      subst hy
      rw [if_pos rfl] at hl ⊢
      rw [take_two]
      rwa [List.take_of_length_le hk] at hl
    · rw [if_neg e] at hl ⊢
      exact hl
theorem Sr1.there {L : List Xi} {o : List Int} {l : List Nat} {i k : Nat} {x : Xi} {tm : Int × Int} {n : Int} (h : Sr1 L o l i k) (hx : L[i]? = some x) (hk : (waysX x i)[k]? = some tm) (hi : o[i]? = some n) {t : Nat} (ht : tm.1 = t) (h1 : o[t]? = some (n + tm.2)) (h0 : 0 ≤ n + tm.2) : Sr1 L o l i (k + 1) := by
  refine ⟨h.b, h.hl, h.hi, fun j v y hj hv hy => ?_⟩
  rcases h.hc j v y hj hv hy with hl | hl
  · exact Or.inl hl
  · right
    by_cases e : j = i
    · subst e
      rw [hx] at hy
      injection hy with hy
      subst hy
      rw [hi] at hj
      injection hj with hj
      subst hj
      rw [if_pos rfl] at hl ⊢
      obtain ⟨hk1, hk2⟩ := List.getElem?_eq_some_iff.1 hk
      rw [List.take_succ_eq_append_getElem hk1, hk2]
      exact hl.snoc ht h1 h0
    · rw [if_neg e] at hl ⊢
      exact hl
theorem Sr1.push {L : List Xi} {o : List Int} {l : List Nat} {i k : Nat} {x : Xi} {tm : Int × Int} {n : Int} (h : Sr1 L o l i k) (hx : L[i]? = some x) (hk : (waysX x i)[k]? = some tm) (hi : o[i]? = some n) (hn : n ≠ -1) {t : Nat} (ht : tm.1 = t) (h1 : o[t]? = some (-1)) (h0 : 0 ≤ n + tm.2) : Sr1 L (o.set t (n + tm.2)) (l ++ [t]) i (k + 1) := by
  have htl := (List.getElem?_eq_some_iff.1 h1).1
  have old : ∀ j v, o[j]? = some v → v ≠ -1 → (o.set t (n + tm.2))[j]? = some v := fun j v hj hv => by
    rw [List.getElem?_set_ne]
    · exact hj
    · intro e; subst e; rw [h1] at hj; injection hj with hj; exact hv hj.symm
  refine ⟨h.b.set hi hn hx (List.mem_of_getElem? hk) ht h0 h1, fun j hj => ?_, ?_, fun j v y hj hv hy => ?_⟩
  · rcases List.mem_append.1 hj with hj | hj
    · obtain ⟨v, h2, h3⟩ := h.hl j hj
      exact ⟨v, old j v h2 h3, h3⟩
    · obtain rfl := List.mem_singleton.1 hj
      exact ⟨n + tm.2, List.getElem?_set_self htl, by omega⟩
  · obtain ⟨v, h2, h3⟩ := h.hi
    exact ⟨v, old i v h2 h3, h3⟩
  · by_cases e2 : t = j
    · subst e2
      exact Or.inl (by simp)
    · rw [List.getElem?_set_ne e2] at hj
      rcases h.hc j v y hj hv hy with hl | hl
      · exact Or.inl (List.mem_append_left _ hl)
      · right
        by_cases e : j = i
        · subst e
          rw [hx] at hy
          injection hy with hy
          subst hy
          rw [hi] at hj
          injection hj with hj
          subst hj
          rw [if_pos rfl] at hl ⊢
          obtain ⟨hk1, hk2⟩ := List.getElem?_eq_some_iff.1 hk
          rw [List.take_succ_eq_append_getElem hk1, hk2]
          exact (hl.set h1).snoc ht (List.getElem?_set_self htl) h0
        · rw [if_neg e] at hl ⊢
          exact hl.set h1
theorem Sr1.lab {L : List Xi} {o : List Int} {i : Nat} (h : Sr1 L o [] i 2) : Lab L o := h.b.lab fun k v x hk hv hx => by
  rcases h.hc k v x hk hv hx with hl | hl
  · cases hl
  · rw [ite_self, take_two] at hl
    exact hl
/-- The document's search: c: something has changed; ahead of i all is right, of i the first k ways, if nothing has changed. -/
structure Sr2 (L : List Xi) (o : List Int) (c : Bool) (i k : Nat) : Prop where
  b : Bs L o
  hc : c = true ∨ ∀ (j : Nat) v x, o[j]? = some v → v ≠ -1 → L[j]? = some x → (j < i → Cl o v (waysX x j)) ∧ (j = i → Cl o v ((waysX x j).take k))
theorem Sr2.start {L : List Xi} {n : Nat} (hn : n = L.length) (h : 0 < n) (i k : Nat) : Sr2 L ((List.replicate n (-1)).set 0 0) true i k := ⟨Bs.start hn h, Or.inl rfl⟩
theorem Sr2.again {L : List Xi} {o : List Int} {c : Bool} {i k : Nat} (h : Sr2 L o c i k) : Sr2 L o false 0 0 := ⟨h.b, Or.inr fun j v x hj hv hx => ⟨fun h => by omega, fun _ => Cl.nil _ _⟩⟩
theorem Sr2.next {L : List Xi} {o : List Int} {c : Bool} {i k : Nat} {x : Xi} (h : Sr2 L o c i k) (hx : L[i]? = some x) (hk : (waysX x i).length ≤ k) : Sr2 L o c (i + 1) 0 := by
  refine ⟨h.b, h.hc.imp id fun g j v y hj hv hy => ⟨fun hl => ?_, fun _ => Cl.nil _ _⟩⟩
  obtain ⟨g1, g2⟩ := g j v y hj hv hy
  by_cases e : j = i
  · subst e
    have := g2 rfl
    rw [hx] at hy
    injection hy with hy
    subst hy
    rwa [List.take_of_length_le hk] at this
  · exact g1 (by omega)
theorem Sr2.skip {L : List Xi} {o : List Int} {c : Bool} {i : Nat} (h : Sr2 L o c i 0) (hi : o[i]? = some (-1)) : Sr2 L o c (i + 1) 0 := by
  refine ⟨h.b, h.hc.imp id fun g j v y hj hv hy => ⟨fun hl => ?_, fun _ => Cl.nil _ _⟩⟩
  by_cases e : j = i
  · subst e
    rw [hi] at hj
    injection hj with hj
    exact absurd hj.symm hv
  · exact (g j v y hj hv hy).1 (by omega)
theorem Sr2.there {L : List Xi} {o : List Int} {c : Bool} {i k : Nat} {x : Xi} {tm : Int × Int} {n : Int} (h : Sr2 L o c i k) (hx : L[i]? = some x) (hk : (waysX x i)[k]? = some tm) (hi : o[i]? = some n) {t : Nat} (ht : tm.1 = t) (h1 : o[t]? = some (n + tm.2)) (h0 : 0 ≤ n + tm.2) : Sr2 L o c i (k + 1) := by
  refine ⟨h.b, h.hc.imp id fun g j v y hj hv hy => ⟨(g j v y hj hv hy).1, fun e => ?_⟩⟩
  have := (g j v y hj hv hy).2 e
  subst e
  rw [hx] at hy
  injection hy with hy
  subst hy
  rw [hi] at hj
  injection hj with hj
  subst hj
  obtain ⟨hk1, hk2⟩ := List.getElem?_eq_some_iff.1 hk
  rw [List.take_succ_eq_append_getElem hk1, hk2]
  exact this.snoc ht h1 h0
theorem Sr2.put {L : List Xi} {o : List Int} {c : Bool} {i k : Nat} {x : Xi} {tm : Int × Int} {n : Int} (h : Sr2 L o c i k) (hx : L[i]? = some x) (hk : (waysX x i)[k]? = some tm) (hi : o[i]? = some n) (hn : n ≠ -1) {t : Nat} (ht : tm.1 = t) (h1 : o[t]? = some (-1)) (h0 : 0 ≤ n + tm.2) : Sr2 L (o.set t (n + tm.2)) true i (k + 1) :=
  ⟨h.b.set hi hn hx (List.mem_of_getElem? hk) ht h0 h1, Or.inl rfl⟩
theorem Sr2.lab {L : List Xi} {o : List Int} {i k : Nat} (h : Sr2 L o false i k) (hi : L.length ≤ i) : Lab L o := h.b.lab fun j v x hj hv hx => by
  rcases h.hc with e | g
  · cases e
  · exact (g j v x hj hv hx).1 (by have := (List.getElem?_eq_some_iff.1 hx).1; omega)
end Go.Proofs.Ytnclfopdgilgaaa
