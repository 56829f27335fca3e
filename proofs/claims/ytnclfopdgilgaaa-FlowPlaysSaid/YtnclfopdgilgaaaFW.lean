/- Layer 11: whatever parts come, what a builder lays is right, and may be when all are closed. Plain: no program. No condition. -/
import Derived.Test.YtnclfopdgilgaaaFQ
import Derived.Test.YtnclfopdgilgaaaIM
namespace Go.Proofs.Ytnclfopdgilgaaa
set_option linter.unusedVariables false

/-- How many loops are among these parts. -/
def cntP (P : List Pk) : Int := (P.countP (fun q => decide (q.k = 3)) : Nat)
theorem cntP_snoc (C : List Pk) (q : Pk) : cntP (C ++ [q]) = cntP C + if q.k = 3 then 1 else 0 := by
  unfold cntP
  rw [List.countP_append]
  by_cases h : q.k = 3 <;> simp [h]
theorem cntP_nil : cntP [] = 0 := rfl
theorem cntP_pos (P : List Pk) : 0 ≤ cntP P := by unfold cntP; omega
/-- The instructions that go to A. -/
def isIx (op : Nat) : Bool := op == 3 || op == 4 || op == 6 || op == 7 || op == 8 || op == 9 || op == 10
/-- How many loops more are open there. -/
def mA (op : Nat) : Int := if op = 9 then -1 else 0
/-- How many more are open behind it; none: nothing goes on there. -/
def nxt (op : Nat) : Option Int := if op = 3 ∨ op = 9 then none else if op = 5 ∨ op = 6 then some 1 else if op = 7 ∨ op = 8 then some (-1) else some 0
/-- What an instruction may be. -/
def OpW (x : Xi) : Prop := (x.op = 1 ∨ x.op = 5 ∨ x.op = 11 ∨ isIx x.op = true) ∧ (isIx x.op = false → x.a = 0) ∧ (x.op = 1 ∨ x.w = 0)
structure Pok (f : Nat → Int) (L : List Xi) (d : Int) (q : Pk) : Prop where
  s : q.s ≤ L.length
  goal : q.k = 2 → f q.s = d
  loop : q.k = 3 → f q.s = d + 1
  gaps : ∀ i ∈ q.g, ∃ x, L[i]? = some x ∧ isIx x.op = true ∧ f i + mA x.op = d
/-- f tells how many loops are open ahead of each instruction; those in G do not go where they will. -/
structure Lv (f : Nat → Int) (L : List Xi) (P : List Pk) (G : Nat → Prop) : Prop where
  z : f 0 = 0
  pos : ∀ i, i ≤ L.length → 0 ≤ f i ∧ f i ≤ i
  op : ∀ x ∈ L, OpW x
  nx : ∀ (i : Nat) x m, L[i]? = some x → nxt x.op = some m → f (i + 1) = f i + m
  ix : ∀ (i : Nat) x, L[i]? = some x → isIx x.op = true → ¬ G i → ∃ t : Nat, x.a = t ∧ t ≤ L.length ∧ f t = f i + mA x.op
  pa : ∀ (j : Nat) q, P[j]? = some q → Pok f L (cntP (P.take j)) q
def upZ (f : Nat → Int) (n : Nat) (v : Int) : Nat → Int := fun i => if i = n then v else f i
theorem upZ_old (f : Nat → Int) (n : Nat) (v : Int) {i : Nat} (h : i < n) : upZ f n v i = f i := if_neg (by omega)
theorem upZ_new (f : Nat → Int) (n : Nat) (v : Int) : upZ f n v n = v := if_pos rfl
theorem Pok.laid {f : Nat → Int} {L : List Xi} {d : Int} {q : Pk} (h : Pok f L d q) (x : Xi) (v : Int) : Pok (upZ f (L.length + 1) v) (L ++ [x]) d q := by
  have hs := h.s
  refine ⟨by simp; omega, fun e => ?_, fun e => ?_, fun i hi => ?_⟩
  · rw [upZ_old _ _ _ (by omega)]; exact h.goal e
  · rw [upZ_old _ _ _ (by omega)]; exact h.loop e
  · obtain ⟨y, h1, h2, h3⟩ := h.gaps i hi
    have hl := (List.getElem?_eq_some_iff.1 h1).1
    exact ⟨y, by rw [List.getElem?_append_left hl]; exact h1, h2, by rw [upZ_old _ _ _ (by omega)]; exact h3⟩
/-- An instruction more. -/
theorem Lv.lay {f : Nat → Int} {L : List Xi} {P : List Pk} {G : Nat → Prop} (h : Lv f L P G) {x : Xi} (hx : OpW x) {v : Int} (h0 : 0 ≤ v) (h1 : v ≤ f L.length + 1) (hn : ∀ m, nxt x.op = some m → v = f L.length + m) : Lv (upZ f (L.length + 1) v) (L ++ [x]) P (fun i => G i ∨ i = L.length) := by
  have hlast := h.pos L.length (Nat.le_refl _)
  refine ⟨by rw [upZ_old _ _ _ (by omega)]; exact h.z, fun i hi => ?_, fun y hy => ?_, fun i y m hy hm => ?_, fun i y hy hi hG => ?_, fun j q hq => (h.pa j q hq).laid x v⟩
  · rw [List.length_append, List.length_singleton] at hi
    by_cases e : i = L.length + 1
    · subst e; rw [upZ_new]; omega
    · rw [upZ_old _ _ _ (by omega)]; exact h.pos i (by omega)
  · rcases List.mem_append.1 hy with hy | hy
    · exact h.op y hy
    · rw [List.mem_singleton.1 hy]; exact hx
  · by_cases e : i = L.length
    · subst e
      rw [List.getElem?_append_right (Nat.le_refl _), Nat.sub_self] at hy
      have hy : x = y := by simpa using hy
      subst hy
      rw [upZ_new, upZ_old _ _ _ (by omega)]
      exact hn m hm
    · have hl := (List.getElem?_eq_some_iff.1 hy).1
      rw [List.length_append, List.length_singleton] at hl
      rw [List.getElem?_append_left (by omega)] at hy
      rw [upZ_old _ _ _ (by omega), upZ_old _ _ _ (by omega)]
      exact h.nx i y m hy hm
  · have hl := (List.getElem?_eq_some_iff.1 hy).1
    rw [List.length_append, List.length_singleton] at hl
    have hne : i ≠ L.length := fun e => hG (Or.inr e)
    rw [List.getElem?_append_left (by omega)] at hy
    obtain ⟨t, g1, g2, g3⟩ := h.ix i y hy hi fun g => hG (Or.inl g)
    exact ⟨t, g1, by rw [List.length_append]; omega, by rw [upZ_old _ _ _ (by omega), upZ_old _ _ _ (by omega)]; exact g3⟩
theorem closeL_at {t : Nat} {g : List Nat} {L : List Xi} {i : Nat} {x : Xi} (h : (closeL t g L)[i]? = some x) : ∃ y, L[i]? = some y ∧ x.op = y.op ∧ x.w = y.w ∧ (x = y ∨ (i ∈ g ∧ x.a = t)) ∧ (i ∈ g → x.a = t) := by
  rw [closeL_get] at h
  split at h
  · rename_i hi
    rw [Option.map_eq_some_iff] at h
    obtain ⟨y, h1, rfl⟩ := h
    exact ⟨y, h1, rfl, rfl, Or.inr ⟨hi, rfl⟩, fun _ => rfl⟩
  · rename_i hi
    exact ⟨x, h, rfl, rfl, Or.inl rfl, fun e => absurd e hi⟩
theorem at_closeL {L : List Xi} {i : Nat} {y : Xi} (h : L[i]? = some y) (t : Nat) (g : List Nat) : ∃ x, (closeL t g L)[i]? = some x ∧ x.op = y.op := by
  rw [closeL_get, h]
  split
  · exact ⟨_, rfl, rfl⟩
  · exact ⟨_, rfl, rfl⟩
/-- All these go to t. -/
theorem Lv.close {f : Nat → Int} {L : List Xi} {P : List Pk} {G : Nat → Prop} (h : Lv f L P G) {t : Nat} (ht : t ≤ L.length) {g : List Nat} (hg : ∀ i ∈ g, ∃ x, L[i]? = some x ∧ isIx x.op = true ∧ f i + mA x.op = f t) : Lv f (closeL t g L) P (fun i => G i ∧ i ∉ g) := by
  refine ⟨h.z, fun i hi => h.pos i (by rwa [closeL_len] at hi), fun x hx => ?_, fun i x m hx hm => ?_, fun i x hx hi hG => ?_, fun j q hq => ?_⟩
  · obtain ⟨i, hi⟩ := List.mem_iff_getElem?.1 hx
    obtain ⟨y, h1, h2, h3, h4, _⟩ := closeL_at hi
    obtain ⟨o1, o2, o3⟩ := h.op y (List.mem_of_getElem? h1)
    refine ⟨by rw [h2]; exact o1, fun e => ?_, by rw [h2, h3]; exact o3⟩
    rcases h4 with rfl | ⟨h4, _⟩
    · exact o2 e
    · obtain ⟨z, hz, hz2, _⟩ := hg i h4
      rw [h1] at hz
      injection hz with hz
      subst hz
      rw [h2, hz2] at e
      cases e
  · obtain ⟨y, h1, h2, _⟩ := closeL_at hx
    exact h.nx i y m h1 (by rw [← h2]; exact hm)
  · obtain ⟨y, h1, h2, _, h4, h5⟩ := closeL_at hx
    by_cases hig : i ∈ g
    · obtain ⟨z, hz, hz2, hz3⟩ := hg i hig
      rw [h1] at hz
      injection hz with hz
      subst hz
      exact ⟨t, h5 hig, by rw [closeL_len]; exact ht, by rw [h2]; exact hz3.symm⟩
    · obtain ⟨u, g1, g2, g3⟩ := h.ix i y h1 (by rw [← h2]; exact hi) fun g0 => hG ⟨g0, hig⟩
      rcases h4 with rfl | ⟨h4, _⟩
      · exact ⟨u, g1, by rw [closeL_len]; exact g2, g3⟩
      · exact absurd h4 hig
  · have hq := h.pa j q hq
    refine ⟨by rw [closeL_len]; exact hq.s, hq.goal, hq.loop, fun i hi => ?_⟩
    obtain ⟨y, h1, h2, h3⟩ := hq.gaps i hi
    obtain ⟨x, hx, he⟩ := at_closeL h1 t g
    exact ⟨x, hx, by rw [he]; exact h2, by rw [he]; exact h3⟩
theorem Lv.weak {f : Nat → Int} {L : List Xi} {P : List Pk} {G H : Nat → Prop} (h : Lv f L P G) (hw : ∀ (i : Nat) x, L[i]? = some x → isIx x.op = true → G i → H i) : Lv f L P H :=
  ⟨h.z, h.pos, h.op, h.nx, fun i x hx hi hG => h.ix i x hx hi fun g => hG (hw i x hx hi g), h.pa⟩
theorem Lv.pop {f : Nat → Int} {L : List Xi} {C D : List Pk} {G : Nat → Prop} (h : Lv f L (C ++ D) G) : Lv f L C G :=
  ⟨h.z, h.pos, h.op, h.nx, h.ix, fun j q hq => by
    have hj := (List.getElem?_eq_some_iff.1 hq).1
    have := h.pa j q (by rw [List.getElem?_append_left hj]; exact hq)
    rwa [List.take_append_of_le_length (by omega)] at this⟩
theorem Lv.topmost {f : Nat → Int} {L : List Xi} {C : List Pk} {q : Pk} {D : List Pk} {G : Nat → Prop} (h : Lv f L (C ++ q :: D) G) : Pok f L (cntP C) q := by
  have := h.pa C.length q (by simp)
  rwa [List.take_left] at this
theorem Lv.push {f : Nat → Int} {L : List Xi} {C : List Pk} {G : Nat → Prop} (h : Lv f L C G) {q : Pk} (hq : Pok f L (cntP C) q) : Lv f L (C ++ [q]) G :=
  ⟨h.z, h.pos, h.op, h.nx, h.ix, fun j r hr => by
    by_cases hj : j < C.length
    · rw [List.getElem?_append_left hj] at hr
      rw [List.take_append_of_le_length (by omega)]
      exact h.pa j r hr
    · have hl := (List.getElem?_eq_some_iff.1 hr).1
      rw [List.length_append, List.length_singleton] at hl
      obtain rfl : j = C.length := by omega
      rw [List.take_left]
      have : q = r := by simpa using hr
      rw [← this]
      exact hq⟩
theorem cntP_app (A B : List Pk) : cntP (A ++ B) = cntP A + cntP B := by unfold cntP; rw [List.countP_append]; omega
theorem cntP_none {D : List Pk} (h : ∀ d ∈ D, d.k ≠ 3) : cntP D = 0 := by
  unfold cntP
  rw [List.countP_eq_zero.2 fun d hd => by simpa using h d hd]
  rfl
/-- A gap more for a part. -/
theorem Lv.more {f : Nat → Int} {L : List Xi} {C : List Pk} {q : Pk} {D : List Pk} {G : Nat → Prop} (h : Lv f L (C ++ q :: D) G) {i : Nat} (hi : ∃ x, L[i]? = some x ∧ isIx x.op = true ∧ f i + mA x.op = cntP C) : Lv f L (C ++ { q with g := q.g ++ [i] } :: D) G := by
  have hcnt : ∀ j, cntP ((C ++ { q with g := q.g ++ [i] } :: D).take j) = cntP ((C ++ q :: D).take j) := fun j => by
    rw [List.take_append, List.take_append, cntP_app, cntP_app]
    congr 1
    cases hj : j - C.length with
    | zero => rfl
    | succ m => simp only [List.take_succ_cons]; unfold cntP; simp only [List.countP_cons]
  refine ⟨h.z, h.pos, h.op, h.nx, h.ix, fun j r hr => ?_⟩
  rw [hcnt]
  by_cases hj : j = C.length
  · subst hj
    have hr : { q with g := q.g ++ [i] } = r := by simpa using hr
    have hq := h.pa C.length q (by simp)
    rw [List.take_left] at hq ⊢
    subst hr
    refine ⟨hq.s, hq.goal, hq.loop, fun k hk => ?_⟩
    rcases List.mem_append.1 hk with hk | hk
    · exact hq.gaps k hk
    · rw [List.mem_singleton.1 hk]; exact hi
  · refine h.pa j r ?_
    by_cases hl : j < C.length
    · rw [List.getElem?_append_left hl] at hr ⊢
      exact hr
    · rw [List.getElem?_append_right (by omega)] at hr ⊢
      obtain ⟨m, hm⟩ : ∃ m, j - C.length = m + 1 := ⟨j - C.length - 1, by omega⟩
      rw [hm] at hr ⊢
      exact hr
/-- i waits for its place. -/
def pend (P : List Pk) (i : Nat) : Prop := ∃ q ∈ P, i ∈ q.g
def Inv (B : Bd) : Prop := ∃ f, Lv f B.L B.P (pend B.P) ∧ f B.L.length = cntP B.P
theorem inv_new : Inv ⟨[], []⟩ := ⟨fun _ => 0, ⟨rfl, fun i hi => by simp, by simp, by simp, by simp, by simp⟩, rfl⟩
theorem new_at (L : List Xi) (x : Xi) : (L ++ [x])[L.length]? = some x := by simp
theorem opw (n : Nat) (h : n = 1 ∨ n = 5 ∨ n = 11 ∨ isIx n = true) : OpW ⟨n, 0, 0⟩ := ⟨h, fun _ => rfl, Or.inr rfl⟩
/-- An instruction that goes on behind itself, without a place. -/
theorem Inv.put {B : Bd} (h : Inv B) {x : Xi} (hx : OpW x) (hi : x.op = 1 ∨ x.op = 11) : Inv (putB x B).2 := by
  unfold putB
  split
  · obtain ⟨f, h, ht⟩ := h
    have hn : nxt x.op = some 0 := by rcases hi with e | e <;> rw [e] <;> rfl
    have hx0 : isIx x.op = false := by rcases hi with e | e <;> rw [e] <;> rfl
    have hp := h.pos B.L.length (Nat.le_refl _)
    refine ⟨_, (h.lay hx (v := f B.L.length) hp.1 (by omega) (fun m hm => by rw [hn] at hm; injection hm with hm; omega)).weak fun i y hy hi hG => ?_, ?_⟩
    · rcases hG with hG | rfl
      · exact hG
      · have hy : (B.L ++ [x])[B.L.length]? = some y := hy
        rw [new_at] at hy
        injection hy with hy
        subst hy
        rw [hx0] at hi
        cases hi
    · simp only [layB, List.length_append, List.length_singleton]
      rw [upZ_new, ht]
  · exact h
theorem pend_cut {C : List Pk} {q : Pk} {i : Nat} (h : pend (C ++ [q]) i) (hq : i ∉ q.g) : pend C i := by
  obtain ⟨r, hr, hi⟩ := h
  rcases List.mem_append.1 hr with hr | hr
  · exact ⟨r, hr, hi⟩
  · rw [List.mem_singleton.1 hr] at hi; exact absurd hi hq
theorem pend_in {C : List Pk} {q : Pk} {i : Nat} (h : pend C i) : pend (C ++ [q]) i := by
  obtain ⟨r, hr, hi⟩ := h
  exact ⟨r, by simp [hr], hi⟩
/-- The top part's gaps closed, where what is open there is what was below it. -/
theorem close_inv {f : Nat → Int} {L : List Xi} {C : List Pk} {q : Pk} {G : Nat → Prop} (h : Lv f L (C ++ [q]) G) (ht : f L.length = cntP C) : Lv f (closeL L.length q.g L) C (fun i => G i ∧ i ∉ q.g) :=
  (h.close (Nat.le_refl _) fun i hi => by
    obtain ⟨x, h1, h2, h3⟩ := (h.topmost (D := [])).gaps i hi
    exact ⟨x, h1, h2, by rw [h3, ht]⟩).pop
theorem cnt_no {C : List Pk} {q : Pk} (h : q.k ≠ 3) : cntP (C ++ [q]) = cntP C := by rw [cntP_snoc, if_neg h, Int.add_zero]
theorem upZ_pre (f : Nat → Int) (n : Nat) (v : Int) : upZ f (n + 1) v n = f n := upZ_old _ _ _ (by omega)
theorem pok_gap {f : Nat → Int} {L : List Xi} {x : Xi} {v d : Int} {k : Nat} (hk : k = 1 ∨ k = 5) (hx : isIx x.op = true) (hd : f L.length + mA x.op = d) : Pok (upZ f (L.length + 1) v) (L ++ [x]) d ⟨k, (L ++ [x]).length, [L.length]⟩ :=
  ⟨Nat.le_refl _, fun e => by simp only at e; omega, fun e => by simp only at e; omega, fun i hi => by
    have hi : i = L.length := by simpa using hi
    subst hi
    exact ⟨x, new_at L x, hx, by rw [upZ_pre]; exact hd⟩⟩
/-- The top part gone back to, and ended. -/
theorem back_inv {f : Nat → Int} {L : List Xi} {C : List Pk} {q : Pk} (h : Lv f L (C ++ [q]) (pend (C ++ [q]))) (ht : f L.length = cntP (C ++ [q])) {x : Xi} (hx : OpW x) (hix : isIx x.op = true) (hm : mA x.op = 0) {v : Int} (hv : v = cntP C) (hn : ∀ m, nxt x.op = some m → v = f L.length + m) (hk : q.k = 2 ∨ q.k = 3) :
    Inv (backB ⟨L ++ [x], C ++ [q]⟩) := by
  have hc : cntP C ≤ f L.length := by
    rw [ht, cntP_snoc]
    split <;> omega
  have h1 := h.lay hx (v := v) (by rw [hv]; exact cntP_pos C) (by omega) hn
  have hq := h1.topmost (D := [])
  have hs : upZ f (L.length + 1) v q.s = f L.length := by
    rcases hk with e | e
    · rw [hq.goal e, ht, cnt_no (by omega)]
    · rw [hq.loop e, ht, cntP_snoc, if_pos e]
  have h2 := h1.close (t := q.s) hq.s (g := [L.length]) fun i hi => by
    have hi : i = L.length := by simpa using hi
    subst hi
    exact ⟨x, new_at L x, hix, by rw [upZ_pre, hm, hs]; omega⟩
  have hlen : (closeL q.s [L.length] (L ++ [x])).length = L.length + 1 := by rw [closeL_len]; simp
  have h3 := close_inv h2 (by rw [hlen, upZ_new, hv])
  rw [back_snoc]
  have e1 : (L ++ [x]).length - 1 = L.length := by simp
  have e2 : closeL q.s [L.length] (L ++ [x]) = setA (L ++ [x]) L.length q.s := rfl
  rw [e2] at h3 hlen
  rw [hlen] at h3
  rw [e1, show (L ++ [x]).length = L.length + 1 by simp]
  refine ⟨_, h3.weak fun i y hy hi hG => ?_, ?_⟩
  · obtain ⟨⟨hG | hG, hG2⟩, hG3⟩ := hG
    · exact pend_cut hG hG3
    · exact absurd hG (by simpa using hG2)
  · simp only [closeL_len, hlen]
    rw [upZ_new, hv]
/-- A gap, or a branch, is opened. -/
theorem inv_gap {L : List Xi} {P : List Pk} (h : Inv ⟨L, P⟩) {k : Nat} (hk : k = 1 ∨ k = 5) {x : Xi} (hx : OpW x) (hix : isIx x.op = true) (hm : mA x.op = 0) (hn : nxt x.op = some 0) : Inv ⟨L ++ [x], P ++ [⟨k, (L ++ [x]).length, [L.length]⟩]⟩ := by
  obtain ⟨f, h, ht⟩ := h
  simp only at h ht
  have hp := h.pos L.length (Nat.le_refl _)
  have h1 := h.lay hx (v := f L.length) hp.1 (by omega) (fun m hm => by rw [hn] at hm; injection hm with hm; omega)
  refine ⟨_, (h1.push (pok_gap hk hix (d := cntP P) (by rw [ht, hm, Int.add_zero]))).weak fun i y hy hi hG => ?_, ?_⟩
  · rcases hG with hG | rfl
    · exact pend_in hG
    · exact ⟨⟨k, (L ++ [x]).length, [L.length]⟩, List.mem_append_right _ (List.mem_singleton.2 rfl), List.mem_singleton.2 rfl⟩
  · simp only [List.length_append, List.length_singleton]
    rw [upZ_new, ht, cnt_no (by simp only; omega)]
theorem inv_plain {L : List Xi} {P : List Pk} (h : Inv ⟨L, P⟩) {k : Nat} (hk : k = 2 ∨ k = 4) : Inv ⟨L, P ++ [⟨k, L.length, []⟩]⟩ := by
  obtain ⟨f, h, ht⟩ := h
  simp only at h ht
  refine ⟨f, (h.push (q := ⟨k, L.length, []⟩) ⟨Nat.le_refl _, fun _ => ht, fun e => by simp only at e; omega, fun i hi => by cases hi⟩).weak fun i y hy hi hG => pend_in hG, ?_⟩
  simp only
  rw [ht, cnt_no (by simp only; omega)]
theorem inv_close {L : List Xi} {C : List Pk} {q : Pk} (h : Inv ⟨L, C ++ [q]⟩) (hk : q.k ≠ 3) : Inv ⟨closeL L.length q.g L, C⟩ := by
  obtain ⟨f, h, ht⟩ := h
  simp only at h ht
  rw [cnt_no hk] at ht
  refine ⟨f, (close_inv h ht).weak fun i y hy hi hG => pend_cut hG.1 hG.2, ?_⟩
  simp only [closeL_len]
  exact ht
theorem inv_loop {L : List Xi} {P : List Pk} (h : Inv ⟨L, P⟩) {x : Xi} (hx : OpW x) (hn : nxt x.op = some 1) (g : List Nat) (hg : (g = [] ∧ isIx x.op = false) ∨ (g = [L.length] ∧ isIx x.op = true ∧ mA x.op = 0)) : Inv ⟨L ++ [x], P ++ [⟨3, (L ++ [x]).length, g⟩]⟩ := by
  obtain ⟨f, h, ht⟩ := h
  simp only at h ht
  have hp := h.pos L.length (Nat.le_refl _)
  have h1 := h.lay hx (v := f L.length + 1) (by omega) (by omega) (fun m hm => by rw [hn] at hm; injection hm with hm; omega)
  have hl : (L ++ [x]).length = L.length + 1 := by simp
  refine ⟨_, (h1.push (q := ⟨3, (L ++ [x]).length, g⟩) ⟨Nat.le_refl _, fun e => (by cases e), fun _ => by simp only [hl]; rw [upZ_new, ht], fun i hi => ?_⟩).weak fun i y hy hi hG => ?_, ?_⟩
  · rcases hg with ⟨rfl, _⟩ | ⟨rfl, h2, h3⟩
    · cases hi
    · have hi : i = L.length := by simpa using hi
      subst hi
      exact ⟨x, new_at L x, h2, by rw [upZ_pre, h3, ht, Int.add_zero]⟩
  · rcases hG with hG | rfl
    · exact pend_in hG
    · rcases hg with ⟨_, h2⟩ | ⟨rfl, _⟩
      · rw [new_at] at hy
        injection hy with hy
        subst hy
        rw [h2] at hi
        cases hi
      · exact ⟨⟨3, (L ++ [x]).length, [L.length]⟩, List.mem_append_right _ (List.mem_singleton.2 rfl), List.mem_singleton.2 rfl⟩
  · simp only [hl]
    rw [upZ_new, ht, cntP_snoc, if_pos rfl]
/-- A jump is laid where the top part, which is no loop, is closed; what else waits for its place is G. -/
theorem jump_inv {f : Nat → Int} {L : List Xi} {C : List Pk} {q : Pk} (h : Lv f L (C ++ [q]) (pend (C ++ [q]))) (ht : f L.length = cntP (C ++ [q])) (hk : q.k ≠ 3) : ∃ f', Lv f' (closeL (L.length + 1) q.g (L ++ [⟨3, 0, 0⟩])) C (fun i => pend C i ∨ i = L.length) ∧ f' (L.length + 1) = cntP C ∧ f' L.length = cntP C := by
  rw [cnt_no hk] at ht
  have hp := h.pos L.length (Nat.le_refl _)
  have h1 := h.lay (opw 3 (by decide)) (v := cntP C) (cntP_pos C) (by omega) (fun m hm => by cases hm)
  have hl : (L ++ [Xi.mk 3 0 0]).length = L.length + 1 := by simp
  have h2 := close_inv h1 (by rw [hl, upZ_new])
  rw [hl] at h2
  refine ⟨_, h2.weak fun i y hy hi hG => ?_, upZ_new _ _ _, by rw [upZ_pre]; exact ht⟩
  obtain ⟨hG | hG, hG2⟩ := hG
  · exact Or.inl (pend_cut hG hG2)
  · exact Or.inr hG
theorem closed_at {L : List Xi} {g : List Nat} {t : Nat} : ∃ x, (closeL t g (L ++ [⟨3, 0, 0⟩]))[L.length]? = some x ∧ x.op = 3 := by
  obtain ⟨x, h1, h2⟩ := at_closeL (new_at L ⟨3, 0, 0⟩) t g
  exact ⟨x, h1, h2⟩
theorem inv_else {L : List Xi} {C : List Pk} {q : Pk} (h : Inv ⟨L, C ++ [q]⟩) (hk : q.k ≠ 3) : Inv ⟨closeL (L.length + 1) q.g (L ++ [⟨3, 0, 0⟩]), C ++ [⟨1, L.length + 1, [L.length]⟩]⟩ := by
  obtain ⟨f, h, ht⟩ := h
  obtain ⟨f', h1, h2, h3⟩ := jump_inv h ht hk
  have hl : (closeL (L.length + 1) q.g (L ++ [Xi.mk 3 0 0])).length = L.length + 1 := by rw [closeL_len]; simp
  refine ⟨f', (h1.push (q := ⟨1, L.length + 1, [L.length]⟩) ⟨by rw [hl]; exact Nat.le_refl _, fun e => (by cases e), fun e => (by cases e), fun i hi => ?_⟩).weak fun i y hy hi hG => ?_, ?_⟩
  · have hi : i = L.length := by simpa using hi
    subst hi
    obtain ⟨x, g1, g2⟩ := closed_at (L := L) (g := q.g) (t := L.length + 1)
    exact ⟨x, g1, by rw [g2]; rfl, by rw [g2, h3]; simp [mA]⟩
  · rcases hG with hG | rfl
    · exact pend_in hG
    · exact ⟨⟨1, L.length + 1, [L.length]⟩, List.mem_append_right _ (List.mem_singleton.2 rfl), List.mem_singleton.2 rfl⟩
  · simp only [hl]
    rw [h2, cnt_no (by simp)]
theorem inv_endof {L : List Xi} {C : List Pk} {p q : Pk} (h : Inv ⟨L, (C ++ [p]) ++ [q]⟩) (hk : q.k ≠ 3) (hp : p.k ≠ 3) : Inv ⟨closeL (L.length + 1) q.g (L ++ [⟨3, 0, 0⟩]), C ++ [{ p with g := p.g ++ [L.length] }]⟩ := by
  obtain ⟨f, h, ht⟩ := h
  obtain ⟨f', h1, h2, h3⟩ := jump_inv h ht hk
  rw [cnt_no hp] at h2 h3
  have hl : (closeL (L.length + 1) q.g (L ++ [Xi.mk 3 0 0])).length = L.length + 1 := by rw [closeL_len]; simp
  obtain ⟨x, g1, g2⟩ := closed_at (L := L) (g := q.g) (t := L.length + 1)
  refine ⟨f', (Lv.more (D := []) h1 (i := L.length) ⟨x, g1, by rw [g2]; rfl, by rw [g2, h3]; simp [mA]⟩).weak fun i y hy hi hG => ?_, ?_⟩
  · rcases hG with ⟨r, hr, hi2⟩ | rfl
    · rcases List.mem_append.1 hr with hr | hr
      · exact ⟨r, by simp [hr], hi2⟩
      · rw [List.mem_singleton.1 hr] at hi2
        exact ⟨{ p with g := p.g ++ [L.length] }, List.mem_append_right _ (List.mem_singleton.2 rfl), List.mem_append_left _ hi2⟩
    · exact ⟨{ p with g := p.g ++ [L.length] }, List.mem_append_right _ (List.mem_singleton.2 rfl), List.mem_append_right _ (List.mem_singleton.2 rfl)⟩
  · simp only [hl]
    rw [h2, cnt_no (by exact hp)]
theorem inv_while {L : List Xi} {C : List Pk} {q : Pk} (h : Inv ⟨L, C ++ [q]⟩) (hk : q.k ≠ 3) : Inv ⟨L ++ [⟨4, 0, 0⟩], C ++ [⟨1, L.length + 1, [L.length]⟩, q]⟩ := by
  obtain ⟨f, h, ht⟩ := h
  simp only at h ht
  rw [cnt_no hk] at ht
  have hp := h.pos L.length (Nat.le_refl _)
  have hl : (L ++ [Xi.mk 4 0 0]).length = L.length + 1 := by simp
  have h1 := h.lay (opw 4 (by decide)) (v := f L.length) hp.1 (by omega) (fun m hm => by cases hm; omega)
  have hq := h1.topmost (D := [])
  have h2 := h1.pop.push (q := ⟨1, L.length + 1, [L.length]⟩) ⟨by rw [hl]; exact Nat.le_refl _, fun e => (by cases e), fun e => (by cases e), fun i hi => by
    have hi : i = L.length := by simpa using hi
    subst hi
    exact ⟨_, new_at L ⟨4, 0, 0⟩, rfl, by rw [upZ_pre, ht]; rfl⟩⟩
  have h3 := h2.push (q := q) (by rw [cnt_no (by simp)]; exact hq)
  have e : (C ++ [⟨1, L.length + 1, [L.length]⟩]) ++ [q] = C ++ [⟨1, L.length + 1, [L.length]⟩, q] := by simp
  rw [e] at h3
  refine ⟨_, h3.weak fun i y hy hi hG => ?_, ?_⟩
  · rcases hG with ⟨r, hr, hi2⟩ | rfl
    · refine ⟨r, ?_, hi2⟩
      simp only [List.mem_append, List.mem_cons, List.not_mem_nil, or_false] at hr ⊢
      rcases hr with hr | hr
      · exact Or.inl hr
      · exact Or.inr (Or.inr hr)
    · exact ⟨⟨1, L.length + 1, [L.length]⟩, List.mem_append_right _ (by simp), List.mem_singleton.2 rfl⟩
  · simp only [hl]
    rw [upZ_new, ht, ← e, cnt_no hk, cnt_no (by simp)]
theorem inv_leave {L : List Xi} {C : List Pk} {q : Pk} {D : List Pk} (h : Inv ⟨L, C ++ q :: D⟩) (hk : q.k = 3) (hD : ∀ d ∈ D, d.k ≠ 3) : Inv ⟨L ++ [⟨9, 0, 0⟩], C ++ { q with g := q.g ++ [L.length] } :: D⟩ := by
  obtain ⟨f, h, ht⟩ := h
  simp only at h ht
  have hc : cntP (C ++ q :: D) = cntP C + 1 := by
    rw [show C ++ q :: D = (C ++ [q]) ++ D by simp, cntP_app, cntP_snoc, if_pos hk, cntP_none hD, Int.add_zero]
  have hc2 : cntP (C ++ { q with g := q.g ++ [L.length] } :: D) = cntP C + 1 := by
    rw [show C ++ { q with g := q.g ++ [L.length] } :: D = (C ++ [{ q with g := q.g ++ [L.length] }]) ++ D by simp, cntP_app, cntP_snoc, if_pos hk, cntP_none hD, Int.add_zero]
  rw [hc] at ht
  have hp := h.pos L.length (Nat.le_refl _)
  have h1 := h.lay (opw 9 (by decide)) (v := f L.length) hp.1 (by omega) (fun m hm => by cases hm)
  refine ⟨_, (h1.more (i := L.length) ⟨_, new_at L ⟨9, 0, 0⟩, rfl, by rw [upZ_pre, ht]; simp [mA]; omega⟩).weak fun i y hy hi hG => ?_, ?_⟩
  · rcases hG with ⟨r, hr, hi2⟩ | rfl
    · rcases List.mem_append.1 hr with hr | hr
      · exact ⟨r, by simp [hr], hi2⟩
      · rcases List.mem_cons.1 hr with rfl | hr
        · exact ⟨{ r with g := r.g ++ [L.length] }, by simp, List.mem_append_left _ hi2⟩
        · exact ⟨r, by simp [hr], hi2⟩
    · exact ⟨{ q with g := q.g ++ [L.length] }, by simp, List.mem_append_right _ (List.mem_singleton.2 rfl)⟩
  · simp only [List.length_append, List.length_singleton]
    rw [upZ_new, ht, hc2]
theorem Inv.does {B : Bd} (h : Inv B) (n : Int) : Inv (doB n B).2 := by
  unfold doB
  cases hn : rowI n with
  | none => exact h
  | some r =>
    simp only
    split
    · rename_i hf
      split
      · rename_i hr
        show Inv (actB r.act (if r.lays = 0 then B else layB ⟨r.lays, 0, 0⟩ B))
        obtain ⟨L, P⟩ := B
        simp only at hf
        have hll : ∀ x : Xi, (L ++ [x]).length = L.length + 1 := fun x => by simp
        have hr2 : roomB r ⟨L, P⟩ = true := hr
        rcases row_ends n with e | ⟨h1, h2⟩
        · rw [e] at hn; cases hn
        have hc : n = 1 ∨ n = 2 ∨ n = 3 ∨ n = 4 ∨ n = 5 ∨ n = 6 ∨ n = 7 ∨ n = 8 ∨ n = 9 ∨ n = 10 ∨ n = 11 ∨ n = 12 ∨ n = 13 ∨ n = 14 ∨ n = 15 ∨ n = 16 ∨ n = 17 := by omega
        have back : ∀ {op k : Nat}, isIx op = true → mA op = 0 → endsB [k] P = true → (k = 2 ∧ (nxt op = none ∨ nxt op = some 0) ∨ k = 3 ∧ nxt op = some (-1)) → Inv (backB ⟨L ++ [⟨op, 0, 0⟩], P⟩) := fun {op k} hix hm he hkk => by
          obtain ⟨C, q, rfl, hq⟩ := ends_one he
          obtain ⟨f, h, ht⟩ := h
          refine back_inv (v := cntP C) h ht (opw op (Or.inr (Or.inr (Or.inr hix)))) hix hm rfl (fun m hm2 => ?_) (by omega)
          rcases hkk with ⟨hk, e | e⟩ | ⟨hk, e⟩
          · rw [e] at hm2; cases hm2
          · rw [e] at hm2
            injection hm2 with hm2
            simp only at ht
            rw [ht, cnt_no (by omega)]
            omega
          · rw [e] at hm2
            injection hm2 with hm2
            simp only at ht
            rw [ht, cntP_snoc, if_pos (by omega)]
            omega
        rcases hc with rfl | rfl | rfl | rfl | rfl | rfl | rfl | rfl | rfl | rfl | rfl | rfl | rfl | rfl | rfl | rfl | rfl
        · obtain rfl : (⟨[], 0, 4, true, 0⟩ : Rw) = r := Option.some.inj ((show rowI 1 = some _ from rfl).symm.trans hn)
          have := inv_gap h (k := 1) (Or.inl rfl) (opw 4 (by decide)) rfl rfl rfl
          show Inv ⟨L ++ [⟨4, 0, 0⟩], P ++ [⟨1, _, [(L ++ [Xi.mk 4 0 0]).length - 1]⟩]⟩
          rw [hll, Nat.add_sub_cancel]
          exact this
        · obtain rfl : (⟨[1], 0, 3, false, 1⟩ : Rw) = r := Option.some.inj ((show rowI 2 = some _ from rfl).symm.trans hn)
          simp [fitsB] at hf
          obtain ⟨C, q, rfl, hq⟩ := ends_one hf
          show Inv (gapB (closeB ⟨L ++ [Xi.mk 3 0 0], C ++ [q]⟩))
          rw [move_snoc, hll, Nat.add_sub_cancel]
          have := inv_else h (by omega)
          unfold openB
          simp only [closeL_len, hll]
          exact this
        · obtain rfl : (⟨[1], 0, 0, false, 2⟩ : Rw) = r := Option.some.inj ((show rowI 3 = some _ from rfl).symm.trans hn)
          simp [fitsB] at hf
          obtain ⟨C, q, rfl, hq⟩ := ends_one hf
          show Inv (closeB ⟨L, C ++ [q]⟩)
          rw [close_snoc]
          exact inv_close h (by omega)
        · obtain rfl : (⟨[], 0, 0, true, 3⟩ : Rw) = r := Option.some.inj ((show rowI 4 = some _ from rfl).symm.trans hn)
          exact inv_plain h (Or.inl rfl)
        · obtain rfl : (⟨[2], 0, 4, true, 4⟩ : Rw) = r := Option.some.inj ((show rowI 5 = some _ from rfl).symm.trans hn)
          simp [fitsB] at hf
          obtain ⟨C, q, rfl, hq⟩ := ends_one hf
          show Inv (belowB ⟨L ++ [Xi.mk 4 0 0], C ++ [q]⟩)
          rw [below_snoc, hll, Nat.add_sub_cancel]
          exact inv_while h (by omega)
        · obtain rfl : (⟨[1, 2], 0, 3, false, 5⟩ : Rw) = r := Option.some.inj ((show rowI 6 = some _ from rfl).symm.trans hn)
          simp [fitsB] at hf
          obtain ⟨C, p, q, rfl, hp1, hq2⟩ := ends_two hf
          show Inv (closeB (backB ⟨L ++ [Xi.mk 3 0 0], C ++ [p, q]⟩))
          have e : C ++ [p, q] = (C ++ [p]) ++ [q] := by simp
          have hb : endsB [2] (C ++ [p, q]) = true := by rw [e]; unfold endsB; rw [decide_eq_true_eq]; exact ⟨(C ++ [p]).map Pk.k, by simp [hq2]⟩
          have := back (op := 3) rfl rfl hb (Or.inl ⟨rfl, Or.inl rfl⟩)
          rw [e] at this ⊢
          rw [back_snoc] at this ⊢
          rw [close_snoc]
          exact inv_close this (by omega)
        · obtain rfl : (⟨[2], 0, 4, false, 6⟩ : Rw) = r := Option.some.inj ((show rowI 7 = some _ from rfl).symm.trans hn)
          simp [fitsB] at hf
          exact back rfl rfl hf (Or.inl ⟨rfl, Or.inr rfl⟩)
        · obtain rfl : (⟨[2], 0, 3, false, 6⟩ : Rw) = r := Option.some.inj ((show rowI 8 = some _ from rfl).symm.trans hn)
          simp [fitsB] at hf
          exact back rfl rfl hf (Or.inl ⟨rfl, Or.inl rfl⟩)
        · obtain rfl : (⟨[], 0, 5, true, 7⟩ : Rw) = r := Option.some.inj ((show rowI 9 = some _ from rfl).symm.trans hn)
          exact inv_loop h (opw 5 (by decide)) rfl [] (Or.inl ⟨rfl, rfl⟩)
        · obtain rfl : (⟨[], 0, 6, true, 8⟩ : Rw) = r := Option.some.inj ((show rowI 10 = some _ from rfl).symm.trans hn)
          have := inv_loop h (opw 6 (by decide)) rfl [L.length] (Or.inr ⟨rfl, rfl, rfl⟩)
          show Inv ⟨L ++ [⟨6, 0, 0⟩], P ++ [⟨3, _, [(L ++ [Xi.mk 6 0 0]).length - 1]⟩]⟩
          rw [hll, Nat.add_sub_cancel]
          exact this
        · obtain rfl : (⟨[3], 0, 7, false, 6⟩ : Rw) = r := Option.some.inj ((show rowI 11 = some _ from rfl).symm.trans hn)
          simp [fitsB] at hf
          exact back rfl rfl hf (Or.inr ⟨rfl, rfl⟩)
        · obtain rfl : (⟨[3], 0, 8, false, 6⟩ : Rw) = r := Option.some.inj ((show rowI 12 = some _ from rfl).symm.trans hn)
          simp [fitsB] at hf
          exact back rfl rfl hf (Or.inr ⟨rfl, rfl⟩)
        · obtain rfl : (⟨[], 3, 9, false, 9⟩ : Rw) = r := Option.some.inj ((show rowI 13 = some _ from rfl).symm.trans hn)
          simp [fitsB] at hf
          obtain ⟨j, hj⟩ := Int.eq_ofNat_of_zero_le hf.2
          obtain ⟨C, q, D, rfl, _, hq3, hD⟩ := topmost_at hj
          show Inv (leaveB ⟨L ++ [Xi.mk 9 0 0], C ++ q :: D⟩)
          rw [leave_mid _ _ _ _ hq3 hD, hll, Nat.add_sub_cancel]
          exact inv_leave h hq3 hD
        · obtain rfl : (⟨[], 0, 0, true, 10⟩ : Rw) = r := Option.some.inj ((show rowI 14 = some _ from rfl).symm.trans hn)
          exact inv_plain h (Or.inr rfl)
        · obtain rfl : (⟨[4], 0, 10, true, 11⟩ : Rw) = r := Option.some.inj ((show rowI 15 = some _ from rfl).symm.trans hn)
          have := inv_gap h (k := 5) (Or.inr rfl) (opw 10 (by decide)) rfl rfl rfl
          show Inv ⟨L ++ [⟨10, 0, 0⟩], P ++ [⟨5, _, [(L ++ [Xi.mk 10 0 0]).length - 1]⟩]⟩
          rw [hll, Nat.add_sub_cancel]
          exact this
        · obtain rfl : (⟨[4, 5], 0, 3, false, 12⟩ : Rw) = r := Option.some.inj ((show rowI 16 = some _ from rfl).symm.trans hn)
          simp [fitsB] at hf
          obtain ⟨C, p, q, rfl, hp1, hq2⟩ := ends_two hf
          show Inv (branchB ⟨L ++ [Xi.mk 3 0 0], C ++ [p, q]⟩)
          rw [branch_snoc, hll, Nat.add_sub_cancel]
          have e : C ++ [p, q] = (C ++ [p]) ++ [q] := by simp
          rw [e] at h
          exact inv_endof h (by omega) (by omega)
        · obtain rfl : (⟨[4], 0, 11, false, 2⟩ : Rw) = r := Option.some.inj ((show rowI 17 = some _ from rfl).symm.trans hn)
          simp [fitsB] at hf
          simp [roomB] at hr2
          obtain ⟨C, q, rfl, hq⟩ := ends_one hf
          show Inv (closeB ⟨L ++ [Xi.mk 11 0 0], C ++ [q]⟩)
          rw [close_snoc]
          have hp := h.put (x := ⟨11, 0, 0⟩) (opw 11 (by decide)) (Or.inr rfl)
          unfold putB at hp
          rw [if_pos hr2] at hp
          exact inv_close hp (by omega)
      · exact h
    · exact h
theorem reach_at {f : Nat → Int} {L : List Xi} (h : Lv f L [] (fun _ => False)) {i n : Int} (r : Rh (L ++ [⟨15, 0, 0⟩]) i n) : ∃ t : Nat, i = t ∧ t ≤ L.length ∧ n = f t := by
  induction r with
  | start => exact ⟨0, rfl, Nat.zero_le _, h.z.symm⟩
  | @step n k x tm r hx hw ih =>
    obtain ⟨k', e, hk, hn⟩ := ih
    have e := Int.ofNat.inj e
    subst e
    by_cases hl : k = L.length
    · subst hl
      rw [new_at] at hx
      injection hx with hx
      subst hx
      simp [waysX] at hw
    · have hx' : L[k]? = some x := by
        rw [List.getElem?_append_left (by omega)] at hx
        exact hx
      have nx := h.nx k x
      have ix := h.ix k x hx'
      have next : ∀ m, nxt x.op = some m → ∃ t : Nat, (k : Int) + 1 = t ∧ t ≤ L.length ∧ n + m = f t := fun m hm => ⟨k + 1, by omega, by omega, by rw [nx m hx' hm, hn]⟩
      have there : isIx x.op = true → ∃ t : Nat, x.a = t ∧ t ≤ L.length ∧ n + mA x.op = f t := fun hi => by
        obtain ⟨t, h1, h2, h3⟩ := ix hi (fun g => g)
        exact ⟨t, h1, h2, by rw [h3, hn]⟩
      obtain ⟨op, a, w⟩ := x
      have ho := (h.op _ (List.mem_of_getElem? hx')).1
      simp only at ho there next hw
      unfold waysX at hw
      simp only at hw
      split at hw
      · rename_i e; subst e
        obtain rfl := List.mem_singleton.1 hw
        exact there rfl
      · split at hw
        · rename_i e; subst e
          obtain rfl := List.mem_singleton.1 hw
          exact there rfl
        · split at hw
          · rename_i e
            have hz : nxt op = some 0 ∧ isIx op = true ∧ mA op = 0 := by rcases e with rfl | rfl <;> exact ⟨rfl, rfl, rfl⟩
            rcases List.mem_cons.1 hw with rfl | hw
            · exact next 0 hz.1
            · obtain rfl := List.mem_singleton.1 hw
              have := there hz.2.1
              rwa [hz.2.2] at this
          · split at hw
            · rename_i e; subst e
              rcases List.mem_cons.1 hw with rfl | hw
              · exact next 1 rfl
              · obtain rfl := List.mem_singleton.1 hw
                exact there rfl
            · split at hw
              · rename_i e
                have hz : nxt op = some (-1) ∧ isIx op = true ∧ mA op = 0 := by rcases e with rfl | rfl <;> exact ⟨rfl, rfl, rfl⟩
                rcases List.mem_cons.1 hw with rfl | hw
                · exact next (-1) hz.1
                · obtain rfl := List.mem_singleton.1 hw
                  have := there hz.2.1
                  rwa [hz.2.2] at this
              · split at hw
                · rename_i e; subst e
                  obtain rfl := List.mem_singleton.1 hw
                  exact next 1 rfl
                · split at hw
                  · cases hw
                  · rename_i h3 h9 h4 h6 h7 h5 h15
                    obtain rfl := List.mem_singleton.1 hw
                    refine next 0 ?_
                    unfold nxt
                    rw [if_neg (by omega), if_neg (by omega), if_neg (by omega)]
/-- What comes of parts that are all closed may be. -/
theorem may_of {L : List Xi} (hl : L.length ≤ 499) (h : Inv ⟨L, []⟩) : MayP (L ++ [⟨15, 0, 0⟩]) 0 := by
  obtain ⟨f, h, ht⟩ := h
  have h := h.weak (H := fun _ => False) fun i x _ _ hG => by
    obtain ⟨q, hq, _⟩ := hG
    cases hq
  simp only at h ht
  rw [cntP_nil] at ht
  have hK : (L ++ [Xi.mk 15 0 0]).length = L.length + 1 := by simp
  classical
  obtain ⟨o, ho⟩ : ∃ o : List Int, o = (List.range (L.length + 1)).map fun (i : Nat) => if ∃ n, Rh (L ++ [⟨15, 0, 0⟩]) (i : Int) n then f i else -1 := ⟨_, rfl⟩
  have hol : o.length = L.length + 1 := by rw [ho]; simp
  have oat : ∀ (i : Nat) v, o[i]? = some v → i ≤ L.length ∧ v = if ∃ n, Rh (L ++ [⟨15, 0, 0⟩]) (i : Int) n then f i else -1 := fun i v hv => by
    have hi := (List.getElem?_eq_some_iff.1 hv).1
    rw [hol] at hi
    rw [ho, List.getElem?_map, List.getElem?_range hi] at hv
    exact ⟨by omega, by simpa using hv.symm⟩
  have onat : ∀ (t : Nat), t ≤ L.length → Rh (L ++ [⟨15, 0, 0⟩]) (t : Int) (f t) → o[t]? = some (f t) := fun t ht2 hr => by
    rw [ho, List.getElem?_map, List.getElem?_range (by omega)]
    simp only [Option.map_some]
    rw [if_pos ⟨_, hr⟩]
  have lab : Lab (L ++ [⟨15, 0, 0⟩]) o := by
    refine ⟨by rw [hol, hK], by rw [hK]; omega, ?_, fun k v hv hne => ?_, fun v hv => ?_, fun k v x hv hne hx => ?_⟩
    · have := onat 0 (Nat.zero_le _) (by rw [h.z]; exact Rh.start)
      rwa [h.z] at this
    · obtain ⟨_, e⟩ := oat k v hv
      split at e
      · rename_i hr
        obtain ⟨n, hr⟩ := hr
        obtain ⟨t, e1, _, e2⟩ := reach_at h hr
        have e1 := Int.ofNat.inj e1
        subst e1
        rw [e, ← e2]
        exact hr
      · exact absurd e hne
    · obtain ⟨i, hi⟩ := List.mem_iff_getElem?.1 hv
      obtain ⟨h1, e⟩ := oat i v hi
      have := h.pos i h1
      rw [hol]
      split at e <;> omega
    · obtain ⟨hk, e⟩ := oat k v hv
      split at e
      · rename_i hr
        obtain ⟨n, hr⟩ := hr
        obtain ⟨t, e1, _, e2⟩ := reach_at h hr
        have e1 := Int.ofNat.inj e1
        subst e1
        intro tm htm
        have hr2 := Rh.step hr hx htm
        obtain ⟨t, g1, g2, g3⟩ := reach_at h hr2
        have hpos := h.pos t g2
        refine ⟨t, g1, ?_, ?_⟩
        · rw [e, ← e2, g3]
          refine onat t g2 ?_
          rw [← g1, ← g3]
          exact hr2
        · rw [e, ← e2, g3]; exact hpos.1
      · exact absurd e hne
  obtain ⟨vl, hvl⟩ : ∃ v, o[L.length]? = some v := ⟨_, List.getElem?_eq_getElem (by rw [hol]; omega)⟩
  have hv0 : vl ≤ 0 := by
    obtain ⟨_, e⟩ := oat L.length vl hvl
    split at e <;> omega
  refine ⟨by rw [hK]; omega, o, ⟨15, 0, 0⟩, vl, lab, ?_, ?_, ?_, fun i x hx => ?_⟩
  · rw [hK, Nat.add_sub_cancel]
    exact new_at L _
  · rw [hK, Nat.add_sub_cancel]
    exact hvl
  · unfold endX
    rw [decide_eq_true_eq]
    exact Or.inr ⟨rfl, hv0⟩
  · have hi := (List.getElem?_eq_some_iff.1 hx).1
    rw [hK] at hi
    have hop : OpW x ∨ x = ⟨15, 0, 0⟩ := by
      rcases List.mem_append.1 (List.mem_of_getElem? hx) with hm | hm
      · exact Or.inl (h.op x hm)
      · exact Or.inr (List.mem_singleton.1 hm)
    rcases hop with hop | rfl
    · obtain ⟨o1, o2, o3⟩ := hop
      have h12 : x.op ≠ 12 := by
        intro e
        rw [e] at o1
        rcases o1 with o1 | o1 | o1 | o1 <;> cases o1
      have hL : L[i]? = some x ∨ i = L.length := by
        by_cases e : i = L.length
        · exact Or.inr e
        · left
          rw [List.getElem?_append_left (by omega)] at hx
          exact hx
      by_cases hix : isIx x.op = true
      · rcases hL with hL | rfl
        · obtain ⟨t, g1, g2, _⟩ := h.ix i x hL hix (fun g => g)
          have hkind : kindX x.op = 2 ∧ isOpX x.op = true := by
            obtain ⟨op, a, w⟩ := x
            simp only at hix ⊢
            simp only [isIx, Bool.or_eq_true, beq_iff_eq] at hix
            rcases hix with (((((e | e) | e) | e) | e) | e) | e <;> subst e <;> exact ⟨rfl, rfl⟩
          unfold fitX
          rw [hkind.1, hkind.2, hK]
          have s2 : spanX (locX (L ++ [⟨15, 0, 0⟩])) ((L.length + 1 : Nat) : Int) 0 2 = (0, ((L.length + 1 : Nat) : Int) - 1) := rfl
          rw [s2]
          simp only [Bool.true_and, Bool.and_eq_true, Bool.or_eq_true, decide_eq_true_eq, Bool.not_eq_true', Bool.and_eq_false_iff, decide_eq_false_iff_not]
          refine ⟨⟨⟨by rw [g1]; omega, by rw [g1]; omega⟩, Or.inl h12⟩, ?_⟩
          exact o3
        · rw [new_at] at hx
          injection hx with hx
          subst hx
          cases hix
      · have hix : isIx x.op = false := by simpa using hix
        have ha := o2 hix
        have hkind : kindX x.op = 0 ∧ isOpX x.op = true := by
          obtain ⟨op, a, w⟩ := x
          simp only at o1 hix ⊢
          rcases o1 with e | e | e | e
          · subst e; exact ⟨rfl, rfl⟩
          · subst e; exact ⟨rfl, rfl⟩
          · subst e; exact ⟨rfl, rfl⟩
          · rw [hix] at e; cases e
        unfold fitX
        rw [hkind.1, hkind.2, ha]
        have s0 : spanX (locX (L ++ [⟨15, 0, 0⟩])) (((L ++ [Xi.mk 15 0 0]).length : Nat) : Int) 0 0 = (0, 0) := rfl
        rw [s0]
        simp only [Bool.true_and, Bool.and_eq_true, Bool.or_eq_true, decide_eq_true_eq, Bool.not_eq_true', Bool.and_eq_false_iff, decide_eq_false_iff_not]
        exact ⟨⟨⟨Int.le_refl _, Int.le_refl _⟩, Or.inl h12⟩, o3⟩
    · have e : i = L.length := by
        by_cases e : i = L.length
        · exact e
        · rw [List.getElem?_append_left (by omega)] at hx
          obtain ⟨o1, _⟩ := h.op _ (List.mem_of_getElem? hx)
          rcases o1 with o1 | o1 | o1 | o1 <;> cases o1
      unfold fitX
      have hkind : kindX 15 = 0 ∧ isOpX 15 = true := ⟨rfl, rfl⟩
      simp only
      rw [hkind.1, hkind.2]
      have s0 : spanX (locX (L ++ [⟨15, 0, 0⟩])) (((L ++ [Xi.mk 15 0 0]).length : Nat) : Int) 0 0 = (0, 0) := rfl
      rw [s0]
      rfl
end Go.Proofs.Ytnclfopdgilgaaa
