/- Layer 10: what InsJumps needs: places alone; rows of small numbers and of Booleans that came in. No condition. -/
import Derived.Test.YtheealjhmndbgaaDoorIZD
import Derived.Test.YtheealjhmndbgaaDoorIS
import Derived.OpenShut
import Derived.Deep.Slices
namespace Go.Proofs.YtheealjhmndbgaaDoor
open Go.RowKit Go.ChangeShapes Go.WideShapes Go.Deep Go.ChangeAt
set_option linter.unusedVariables false
set_option linter.unusedSimpArgs false

theorem addr_zeroE (x : Addr) : x.add 0 = x := by unfold Addr.add; simp
/-- Small numbers that came in. -/
def SmallIn (w : World) (A : Option Addr) (n : Nat) (Z : List Int) : Prop := n = Z.length ∧ n ≤ 9223372036854775807 ∧ ∀ i (hi : i < Z.length), (∃ x, A = some x ∧ w.cell? (x.add i) = some (.int .i8 Z[i])) ∧ -128 ≤ Z[i] ∧ Z[i] ≤ 127
theorem SmallIn.far {w w' : World} {A : Option Addr} {n : Nat} {Z : List Int} (h : SmallIn w A n Z) (m : Mod [] w w') : SmallIn w' A n Z := ⟨h.1, h.2.1, fun i hi => by
  obtain ⟨⟨x, e, hc⟩, hb⟩ := h.2.2 i hi
  exact ⟨⟨x, e, m.cell (by simp) hc⟩, hb⟩⟩
theorem SmallIn.nil (w : World) : SmallIn w none 0 [] := ⟨rfl, by omega, fun i hi => absurd hi (by simp)⟩
theorem SmallIn.of {w : World} {x : Addr} {l c : Nat} {zs : List Int} (hl : l ≤ c) (hm : c ≤ maxLen) (hz : zs.length = c) (hcell : ∀ i, i < zs.length → w.cell? (x.add i) = some (.int .i8 (zs.getD i 0))) (hw : ∀ n ∈ zs, (Lit.int .i8 n).wf = true) : ∃ zs, SmallIn w (some x) l zs := by
  have hm9 : maxLen = 9223372036854775807 := rfl
  refine ⟨zs.take l, by simp; omega, by omega, fun i hi => ?_⟩
  have hi2 : i < zs.length := by simp at hi; omega
  have hb := hw _ (List.getElem_mem hi2)
  simp [Lit.wf, IntKind.min, IntKind.max, IntKind.signed, IntKind.bits] at hb
  refine ⟨⟨x, rfl, ?_⟩, by simp; omega, by simp; omega⟩
  rw [hcell i hi2]
  simp [List.getD, List.getElem?_eq_getElem hi2]
/-- Booleans that came in. -/
def BoolsIn (w : World) (A : Option Addr) (n : Nat) (B : List Bool) : Prop := n = B.length ∧ n ≤ 9223372036854775807 ∧ ∀ i (hi : i < B.length), ∃ x, A = some x ∧ w.cell? (x.add i) = some (.bool B[i])
theorem BoolsIn.far {w w' : World} {A : Option Addr} {n : Nat} {B : List Bool} (h : BoolsIn w A n B) (m : Mod [] w w') : BoolsIn w' A n B := ⟨h.1, h.2.1, fun i hi => by
  obtain ⟨x, e, hc⟩ := h.2.2 i hi
  exact ⟨x, e, m.cell (by simp) hc⟩⟩
theorem Tryd.cellsBoolI : Tryd.prog.cellsOf 4 = 1 := by kernel_rfl
theorem bools_open {H : Type} {enc : TypeId × Value → H} {W : World} {base n : Nat} {sp : Nat → Bool} {held : Bool} {A : Option Addr} {len cap : Nat} {d : DataW H × List MemPlace} (h : DataW.trod enc Tryd.prog W base sp held n 40 [.slice A len cap] = some d) : ∃ B, BoolsIn W A len B := by
  rcases open_slice Tryd.underlying40 h with ⟨hcs, _⟩ | ⟨a, l, c, m, n2, D, Pl, hcs, _, hl, hc, hm, _, hi⟩
  · simp at hcs
    obtain ⟨rfl, rfl, rfl⟩ := hcs
    exact ⟨[], rfl, by omega, fun i hi => absurd hi (by simp)⟩
  · simp at hcs
    obtain ⟨rfl, rfl, rfl⟩ := hcs
    have hc9 : cap ≤ 9223372036854775807 := by unfold maxLen at hc; omega
    have hval : ∀ i, i < len → ∃ b : Bool, W.cell? (a.add i) = some (.bool b) := fun i hil => by
      have him : i < m := by rw [hm]; split <;> omega
      obtain ⟨cs', hcc, ht⟩ := hi i him
      rw [Tryd.cellsBoolI] at hcc
      obtain ⟨_, hl1, hat⟩ := World.cells?_some hcc
      have h0 := hat 0 (by omega)
      rw [Nat.mul_one] at h0
      obtain ⟨b, hb, _⟩ := DataW.trod_bool Tryd.underlying4 ht
      subst hb
      refine ⟨b, ?_⟩
      have e : (a.add i).add 0 = a.add i := addr_zeroE _
      rw [e] at h0
      rw [h0]; rfl
    have key : ∀ k, k ≤ len → ∃ B : List Bool, B.length = k ∧ ∀ i (hi : i < B.length), W.cell? (a.add i) = some (.bool B[i]) := fun k => by
      induction k with
      | zero => exact fun _ => ⟨[], rfl, fun i hi => by simp at hi⟩
      | succ k ih =>
        intro hk
        obtain ⟨B, h1, h2⟩ := ih (by omega)
        obtain ⟨b, hb⟩ := hval k (by omega)
        refine ⟨B ++ [b], by simp [h1], fun i hi => ?_⟩
        by_cases e : i < B.length
        · rw [List.getElem_append_left e]; exact h2 i e
        · have e2 : i = k := by simp at hi; omega
          subst e2
          rw [List.getElem_append_right (by omega)]
          simp only [h1, Nat.sub_self, List.getElem_cons_zero]
          exact hb
    obtain ⟨B, h1, h2⟩ := key len (Nat.le_refl _)
    exact ⟨B, h1.symm, by omega, fun i hi => ⟨a, rfl, h2 i hi⟩⟩
/-- Places alone, and an end. -/
def IsJ (x : Xi) : Prop := (x.op = 3 ∨ x.op = 4) ∧ x.w = 0
def AllJ (K : List Xi) : Prop := ∀ x ∈ K, IsJ x
def jmL (K : List Xi) : List Xi := K ++ [⟨15, 0, 0⟩]
theorem jm_len (K : List Xi) : (jmL K).length = K.length + 1 := by simp [jmL]
theorem jm_get {K : List Xi} {i : Nat} {x : Xi} (h : (jmL K)[i]? = some x) : (i < K.length ∧ x ∈ K) ∨ (i = K.length ∧ x = ⟨15, 0, 0⟩) := by
  have hl := (List.getElem?_eq_some_iff.1 h).1
  rw [jm_len] at hl
  unfold jmL at h
  by_cases e : i < K.length
  · rw [List.getElem?_append_left e] at h
    exact Or.inl ⟨e, List.mem_of_getElem? h⟩
  · have : i = K.length := by omega
    subst this
    rw [List.getElem?_append_right (Nat.le_refl _), Nat.sub_self] at h
    simp at h
    exact Or.inr ⟨rfl, h.symm⟩
/-- All places are there. -/
def InJ (K : List Xi) : Prop := ∀ x ∈ K, 0 ≤ x.a ∧ x.a < (K.length : Int) + 1
theorem jm_reach {K : List Xi} (hJ : AllJ K) (hI : InJ K) {i n : Int} (r : Rh (jmL K) i n) : n = 0 ∧ 0 ≤ i ∧ i < (K.length : Int) + 1 := by
  induction r with
  | start => exact ⟨rfl, by omega, by omega⟩
  | step r hx hw ih =>
    obtain ⟨rfl, h1, h2⟩ := ih
    rcases jm_get hx with ⟨h3, h4⟩ | ⟨_, rfl⟩
    · obtain ⟨hop, _⟩ := hJ _ h4
      have ha := hI _ h4
      rcases hop with hop | hop
      · simp [waysX, hop] at hw
        subst hw
        exact ⟨by simp, ha.1, ha.2⟩
      · simp [waysX, hop] at hw
        rcases hw with rfl | rfl
        · exact ⟨by simp, by simp only; omega, by simp only; omega⟩
        · exact ⟨by simp, ha.1, ha.2⟩
    · simp [waysX] at hw
theorem jm_good {K : List Xi} (hJ : AllJ K) (hI : InJ K) : ¬ Bad (jmL K) := by
  rintro ⟨i, n, r, h⟩
  obtain ⟨rfl, h1, h2⟩ := jm_reach hJ hI r
  rw [jm_len] at h
  rcases h with h | h | h | ⟨m, rm, hm⟩
  · omega
  · omega
  · push_cast at h; omega
  · exact hm (jm_reach hJ hI rm).1
theorem jm_zero {K : List Xi} (hJ : AllJ K) (hI : InJ K) {o : List Int} (h : Lab (jmL K) o) {k : Nat} {v : Int} (hk : o[k]? = some v) : v = 0 ∨ v = -1 := by
  by_cases e : v = -1
  · exact Or.inr e
  · exact Or.inl (jm_reach hJ hI (h.rh k v hk e)).1
theorem jm_last (K : List Xi) : (jmL K)[(jmL K).length - 1]? = some ⟨15, 0, 0⟩ := by
  rw [jm_len]
  unfold jmL
  rw [Nat.add_sub_cancel, List.getElem?_append_right (Nat.le_refl _), Nat.sub_self]
  rfl
theorem jm_fit {K : List Xi} (hJ : AllJ K) : FitAll (jmL K) 0 ↔ InJ K := by
  have hl := jm_len K
  constructor
  · intro h x hx
    obtain ⟨i, hi, rfl⟩ := List.getElem_of_mem hx
    have h1 := h i K[i] (by unfold jmL; rw [List.getElem?_append_left hi]; exact List.getElem?_eq_getElem hi)
    rw [fit_split, hl] at h1
    have h2 := h1.2.1
    have hk : kindX (K[i]).op = 2 := by rcases (hJ _ hx).1 with e | e <;> rw [e] <;> rfl
    rw [hk] at h2
    simp [spanX] at h2
    omega
  · intro h i x hx
    rw [fit_split, hl]
    rcases jm_get hx with ⟨h1, h2⟩ | ⟨rfl, rfl⟩
    · have ha := h x h2
      obtain ⟨hop, hw⟩ := hJ x h2
      have hk : kindX x.op = 2 := by rcases hop with e | e <;> rw [e] <;> rfl
      rw [hk]
      refine ⟨by omega, ?_, by omega, Or.inr hw⟩
      simp [spanX]
      omega
    · simp [kindX, spanX]
theorem jm_may {K : List Xi} (hJ : AllJ K) (hI : InJ K) (hl : K.length ≤ 100) {o : List Int} (h : Lab (jmL K) o) : MayP (jmL K) 0 := by
  obtain ⟨x, v, hx, hv⟩ := last_there h
  have e := jm_last K
  rw [hx] at e
  injection e with e
  subst e
  rw [MayP.of (by rw [jm_len]; omega) h hx hv]
  refine ⟨?_, (jm_fit hJ).2 hI⟩
  unfold endX
  have := jm_zero hJ hI h hv
  exact decide_eq_true (Or.inr ⟨rfl, by omega⟩)
theorem jm_no {K : List Xi} (hJ : AllJ K) (hI : ¬ InJ K) : ¬ MayP (jmL K) 0 := fun ⟨_, _, _, _, _, _, _, _, hf⟩ => hI ((jm_fit hJ).1 hf)
theorem jm_drop (K : List Xi) : ¬ MayP (jmL K ++ [⟨11, 0, 0⟩]) 0 := by
  rintro ⟨_, o, x, v, _, hx, _, hend, _⟩
  have e : (jmL K ++ [(⟨11, 0, 0⟩ : Xi)])[(jmL K ++ [(⟨11, 0, 0⟩ : Xi)]).length - 1]? = some ⟨11, 0, 0⟩ := by
    rw [List.length_append, List.length_singleton, Nat.add_sub_cancel, List.getElem?_append_right (Nat.le_refl _), Nat.sub_self]
    rfl
  rw [e] at hx
  injection hx with hx
  subst hx
  unfold endX at hend
  have := of_decide_eq_true hend
  simp at this
end Go.Proofs.YtheealjhmndbgaaDoor
