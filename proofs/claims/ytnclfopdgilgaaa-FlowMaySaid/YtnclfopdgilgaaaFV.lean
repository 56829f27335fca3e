/- Layer 11: how many loops are open where: what a builder has laid is right at every moment. Plain: no program. No condition. -/
import Derived.Test.YtnclfopdgilgaaaFQ
namespace Go.Proofs.Ytnclfopdgilgaaa
set_option linter.unusedVariables false

/-- How many loops are among these parts. -/
def cntP (P : List Pk) : Int := (P.countP (fun q => decide (q.k = 3)) : Nat)
theorem cntP_snoc (C : List Pk) (q : Pk) : cntP (C ++ [q]) = cntP C + if q.k = 3 then 1 else 0 := by
  unfold cntP
  rw [List.countP_append]
  by_cases h : q.k = 3 <;> simp [h]
theorem cntP_nil : cntP [] = 0 := rfl
theorem cntP_pos (P : List Pk) : 0 ≤ cntP P := by unfold cntP; omega
/-- The instructions that go to A. -/
def isIx (op : Nat) : Bool := op == 3 || op == 4 || op == 6 || op == 7 || op == 8 || op == 9 || op == 10
/-- How many loops more are open there. -/
def mA (op : Nat) : Int := if op = 9 then -1 else 0
/-- How many more are open behind it; none: nothing goes on there. -/
def nxt (op : Nat) : Option Int := if op = 3 ∨ op = 9 then none else if op = 5 ∨ op = 6 then some 1 else if op = 7 ∨ op = 8 then some (-1) else some 0
/-- What an instruction may be. -/
def OpW (x : Xi) : Prop := (x.op = 1 ∨ x.op = 5 ∨ x.op = 11 ∨ isIx x.op = true) ∧ (isIx x.op = false → x.a = 0) ∧ (x.op = 1 ∨ x.w = 0)
structure Pok (f : Nat → Int) (L : List Xi) (d : Int) (q : Pk) : Prop where
  s : q.s ≤ L.length
  goal : q.k = 2 → f q.s = d
  loop : q.k = 3 → f q.s = d + 1
  gaps : ∀ i ∈ q.g, ∃ x, L[i]? = some x ∧ isIx x.op = true ∧ f i + mA x.op = d
/-- f tells how many loops are open ahead of each instruction; those in G do not go where they will. -/
structure Lv (f : Nat → Int) (L : List Xi) (P : List Pk) (G : Nat → Prop) : Prop where
  z : f 0 = 0
  pos : ∀ i, i ≤ L.length → 0 ≤ f i ∧ f i ≤ i
  op : ∀ x ∈ L, OpW x
  nx : ∀ (i : Nat) x m, L[i]? = some x → nxt x.op = some m → f (i + 1) = f i + m
  ix : ∀ (i : Nat) x, L[i]? = some x → isIx x.op = true → ¬ G i → ∃ t : Nat, x.a = t ∧ t ≤ L.length ∧ f t = f i + mA x.op
  pa : ∀ (j : Nat) q, P[j]? = some q → Pok f L (cntP (P.take j)) q
def upZ (f : Nat → Int) (n : Nat) (v : Int) : Nat → Int := fun i => if i = n then v else f i
theorem upZ_old (f : Nat → Int) (n : Nat) (v : Int) {i : Nat} (h : i < n) : upZ f n v i = f i := if_neg (by omega)
theorem upZ_new (f : Nat → Int) (n : Nat) (v : Int) : upZ f n v n = v := if_pos rfl
theorem Pok.laid {f : Nat → Int} {L : List Xi} {d : Int} {q : Pk} (h : Pok f L d q) (x : Xi) (v : Int) : Pok (upZ f (L.length + 1) v) (L ++ [x]) d q := by
  have hs := h.s
  refine ⟨by simp; omega, fun e => ?_, fun e => ?_, fun i hi => ?_⟩
  · rw [upZ_old _ _ _ (by omega)]; exact h.goal e
  · rw [upZ_old _ _ _ (by omega)]; exact h.loop e
  · obtain ⟨y, h1, h2, h3⟩ := h.gaps i hi
    have hl := (List.getElem?_eq_some_iff.1 h1).1
    exact ⟨y, by rw [List.getElem?_append_left hl]; exact h1, h2, by rw [upZ_old _ _ _ (by omega)]; exact h3⟩
/-- An instruction more. -/
theorem Lv.lay {f : Nat → Int} {L : List Xi} {P : List Pk} {G : Nat → Prop} (h : Lv f L P G) {x : Xi} (hx : OpW x) {v : Int} (h0 : 0 ≤ v) (h1 : v ≤ f L.length + 1) (hn : ∀ m, nxt x.op = some m → v = f L.length + m) : Lv (upZ f (L.length + 1) v) (L ++ [x]) P (fun i => G i ∨ i = L.length) := by
  have hlast := h.pos L.length (Nat.le_refl _)
  refine ⟨by rw [upZ_old _ _ _ (by omega)]; exact h.z, fun i hi => ?_, fun y hy => ?_, fun i y m hy hm => ?_, fun i y hy hi hG => ?_, fun j q hq => (h.pa j q hq).laid x v⟩
  · rw [List.length_append, List.length_singleton] at hi
    by_cases e : i = L.length + 1
    · subst e; rw [upZ_new]; omega
    · rw [upZ_old _ _ _ (by omega)]; exact h.pos i (by omega)
  · rcases List.mem_append.1 hy with hy | hy
    · exact h.op y hy
    · rw [List.mem_singleton.1 hy]; exact hx
  · by_cases e : i = L.length
    · subst e
      rw [List.getElem?_append_right (Nat.le_refl _), Nat.sub_self] at hy
      have hy : x = y := by simpa using hy
      subst hy
      rw [upZ_new, upZ_old _ _ _ (by omega)]
      exact hn m hm
    · have hl := (List.getElem?_eq_some_iff.1 hy).1
      rw [List.length_append, List.length_singleton] at hl
      rw [List.getElem?_append_left (by omega)] at hy
      rw [upZ_old _ _ _ (by omega), upZ_old _ _ _ (by omega)]
      exact h.nx i y m hy hm
  · have hl := (List.getElem?_eq_some_iff.1 hy).1
    rw [List.length_append, List.length_singleton] at hl
    have hne : i ≠ L.length := fun e => hG (Or.inr e)
    rw [List.getElem?_append_left (by omega)] at hy
    obtain ⟨t, g1, g2, g3⟩ := h.ix i y hy hi fun g => hG (Or.inl g)
    exact ⟨t, g1, by rw [List.length_append]; omega, by rw [upZ_old _ _ _ (by omega), upZ_old _ _ _ (by omega)]; exact g3⟩
theorem closeL_at {t : Nat} {g : List Nat} {L : List Xi} {i : Nat} {x : Xi} (h : (closeL t g L)[i]? = some x) : ∃ y, L[i]? = some y ∧ x.op = y.op ∧ x.w = y.w ∧ (x = y ∨ (i ∈ g ∧ x.a = t)) ∧ (i ∈ g → x.a = t) := by
  rw [closeL_get] at h
  split at h
  · rename_i hi
    rw [Option.map_eq_some_iff] at h
    obtain ⟨y, h1, rfl⟩ := h
    exact ⟨y, h1, rfl, rfl, Or.inr ⟨hi, rfl⟩, fun _ => rfl⟩
  · rename_i hi
    exact ⟨x, h, rfl, rfl, Or.inl rfl, fun e => absurd e hi⟩
theorem at_closeL {L : List Xi} {i : Nat} {y : Xi} (h : L[i]? = some y) (t : Nat) (g : List Nat) : ∃ x, (closeL t g L)[i]? = some x ∧ x.op = y.op := by
  rw [closeL_get, h]
  split
  · exact ⟨_, rfl, rfl⟩
  · exact ⟨_, rfl, rfl⟩
/-- All these go to t. -/
theorem Lv.close {f : Nat → Int} {L : List Xi} {P : List Pk} {G : Nat → Prop} (h : Lv f L P G) {t : Nat} (ht : t ≤ L.length) {g : List Nat} (hg : ∀ i ∈ g, ∃ x, L[i]? = some x ∧ isIx x.op = true ∧ f i + mA x.op = f t) : Lv f (closeL t g L) P (fun i => G i ∧ i ∉ g) := by
  refine ⟨h.z, fun i hi => h.pos i (by rwa [closeL_len] at hi), fun x hx => ?_, fun i x m hx hm => ?_, fun i x hx hi hG => ?_, fun j q hq => ?_⟩
  · obtain ⟨i, hi⟩ := List.mem_iff_getElem?.1 hx
    obtain ⟨y, h1, h2, h3, h4, _⟩ := closeL_at hi
    obtain ⟨o1, o2, o3⟩ := h.op y (List.mem_of_getElem? h1)
    refine ⟨by rw [h2]; exact o1, fun e => ?_, by rw [h2, h3]; exact o3⟩
    rcases h4 with rfl | ⟨h4, _⟩
    · exact o2 e
    · obtain ⟨z, hz, hz2, _⟩ := hg i h4
      rw [h1] at hz
      injection hz with hz
      subst hz
      rw [h2, hz2] at e
      cases e
  · obtain ⟨y, h1, h2, _⟩ := closeL_at hx
    exact h.nx i y m h1 (by rw [← h2]; exact hm)
  · obtain ⟨y, h1, h2, _, h4, h5⟩ := closeL_at hx
    by_cases hig : i ∈ g
    · obtain ⟨z, hz, hz2, hz3⟩ := hg i hig
      rw [h1] at hz
      injection hz with hz
      subst hz
      exact ⟨t, h5 hig, by rw [closeL_len]; exact ht, by rw [h2]; exact hz3.symm⟩
    · obtain ⟨u, g1, g2, g3⟩ := h.ix i y h1 (by rw [← h2]; exact hi) fun g0 => hG ⟨g0, hig⟩
      rcases h4 with rfl | ⟨h4, _⟩
      · exact ⟨u, g1, by rw [closeL_len]; exact g2, g3⟩
      · exact absurd h4 hig
  · have hq := h.pa j q hq
    refine ⟨by rw [closeL_len]; exact hq.s, hq.goal, hq.loop, fun i hi => ?_⟩
    obtain ⟨y, h1, h2, h3⟩ := hq.gaps i hi
    obtain ⟨x, hx, he⟩ := at_closeL h1 t g
    exact ⟨x, hx, by rw [he]; exact h2, by rw [he]; exact h3⟩
theorem Lv.weak {f : Nat → Int} {L : List Xi} {P : List Pk} {G H : Nat → Prop} (h : Lv f L P G) (hw : ∀ (i : Nat) x, L[i]? = some x → isIx x.op = true → G i → H i) : Lv f L P H :=
  ⟨h.z, h.pos, h.op, h.nx, fun i x hx hi hG => h.ix i x hx hi fun g => hG (hw i x hx hi g), h.pa⟩
theorem Lv.pop {f : Nat → Int} {L : List Xi} {C D : List Pk} {G : Nat → Prop} (h : Lv f L (C ++ D) G) : Lv f L C G :=
  ⟨h.z, h.pos, h.op, h.nx, h.ix, fun j q hq => by
    have hj := (List.getElem?_eq_some_iff.1 hq).1
    have := h.pa j q (by rw [List.getElem?_append_left hj]; exact hq)
    rwa [List.take_append_of_le_length (by omega)] at this⟩
theorem Lv.topmost {f : Nat → Int} {L : List Xi} {C : List Pk} {q : Pk} {D : List Pk} {G : Nat → Prop} (h : Lv f L (C ++ q :: D) G) : Pok f L (cntP C) q := by
  have := h.pa C.length q (by simp)
  rwa [List.take_left] at this
theorem Lv.push {f : Nat → Int} {L : List Xi} {C : List Pk} {G : Nat → Prop} (h : Lv f L C G) {q : Pk} (hq : Pok f L (cntP C) q) : Lv f L (C ++ [q]) G :=
  ⟨h.z, h.pos, h.op, h.nx, h.ix, fun j r hr => by
    by_cases hj : j < C.length
    · rw [List.getElem?_append_left hj] at hr
      rw [List.take_append_of_le_length (by omega)]
      exact h.pa j r hr
    · have hl := (List.getElem?_eq_some_iff.1 hr).1
      rw [List.length_append, List.length_singleton] at hl
      obtain rfl : j = C.length := by omega
      rw [List.take_left]
      have : q = r := by simpa using hr
      rw [← this]
      exact hq⟩
theorem cntP_app (A B : List Pk) : cntP (A ++ B) = cntP A + cntP B := by unfold cntP; rw [List.countP_append]; omega
theorem cntP_none {D : List Pk} (h : ∀ d ∈ D, d.k ≠ 3) : cntP D = 0 := by
  unfold cntP
  rw [List.countP_eq_zero.2 fun d hd => by simpa using h d hd]
  rfl
/-- A gap more for a part. -/
theorem Lv.more {f : Nat → Int} {L : List Xi} {C : List Pk} {q : Pk} {D : List Pk} {G : Nat → Prop} (h : Lv f L (C ++ q :: D) G) {i : Nat} (hi : ∃ x, L[i]? = some x ∧ isIx x.op = true ∧ f i + mA x.op = cntP C) : Lv f L (C ++ { q with g := q.g ++ [i] } :: D) G := by
  have hcnt : ∀ j, cntP ((C ++ { q with g := q.g ++ [i] } :: D).take j) = cntP ((C ++ q :: D).take j) := fun j => by
    rw [List.take_append, List.take_append, cntP_app, cntP_app]
    congr 1
    cases hj : j - C.length with
    | zero => rfl
    | succ m => simp only [List.take_succ_cons]; unfold cntP; simp only [List.countP_cons]
  refine ⟨h.z, h.pos, h.op, h.nx, h.ix, fun j r hr => ?_⟩
  rw [hcnt]
  by_cases hj : j = C.length
  · subst hj
    have hr : { q with g := q.g ++ [i] } = r := by simpa using hr
    have hq := h.pa C.length q (by simp)
    rw [List.take_left] at hq ⊢
    subst hr
    refine ⟨hq.s, hq.goal, hq.loop, fun k hk => ?_⟩
    rcases List.mem_append.1 hk with hk | hk
    · exact hq.gaps k hk
    · rw [List.mem_singleton.1 hk]; exact hi
  · refine h.pa j r ?_
    by_cases hl : j < C.length
    · rw [List.getElem?_append_left hl] at hr ⊢
      exact hr
    · rw [List.getElem?_append_right (by omega)] at hr ⊢
      obtain ⟨m, hm⟩ : ∃ m, j - C.length = m + 1 := ⟨j - C.length - 1, by omega⟩
      rw [hm] at hr ⊢
      exact hr
end Go.Proofs.Ytnclfopdgilgaaa
