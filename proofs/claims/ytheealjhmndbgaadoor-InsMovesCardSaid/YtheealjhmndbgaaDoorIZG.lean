/- Layer 10: what InsMoves needs: a definition behind jumps. No condition. -/
import Derived.Test.YtheealjhmndbgaaDoorIZB
import Derived.Test.YtheealjhmndbgaaDoorIU
namespace Go.Proofs.YtheealjhmndbgaaDoor
open Go.RowKit
set_option linter.unusedVariables false
set_option linter.unusedSimpArgs false

def mvX (p : Nat) (x : Xi) : Xi := if goesX x.op then ⟨x.op, wrap64 (x.a + (p : Int)), x.w⟩ else x
def preX (p : Nat) : List Xi := (List.range p).map fun (i : Nat) => ⟨3, (i : Int) + 1, 0⟩
def mvL (p : Nat) (K : List Xi) : List Xi := preX p ++ K.map (mvX p)
theorem pre_len (p : Nat) : (preX p).length = p := by simp [preX]
theorem pre_next (p : Nat) : preX p ++ [⟨3, (p : Int) + 1, 0⟩] = preX (p + 1) := by simp [preX, List.range_succ]
theorem mv_len (p : Nat) (K : List Xi) : (mvL p K).length = p + K.length := by simp [mvL, pre_len]
theorem mv_low (p : Nat) (K : List Xi) (k : Nat) (h : k < p) : (mvL p K)[k]? = some ⟨3, (k : Int) + 1, 0⟩ := by
  unfold mvL
  rw [List.getElem?_append_left (by rw [pre_len]; exact h)]
  simp [preX, h]
theorem mv_high (p : Nat) (K : List Xi) (k : Nat) : (mvL p K)[k + p]? = K[k]?.map (mvX p) := by
  unfold mvL
  rw [List.getElem?_append_right (by rw [pre_len]; omega), pre_len, Nat.add_sub_cancel, List.getElem?_map]
theorem mv_op (p : Nat) (x : Xi) : (mvX p x).op = x.op ∧ (mvX p x).w = x.w := by
  unfold mvX
  split <;> exact ⟨rfl, rfl⟩
theorem mv_well (p : Nat) (x : Xi) (h : WellX x) : WellX (mvX p x) := by
  unfold mvX
  split
  · exact ⟨h.op, i64_wrap _, h.w⟩
  · exact h
/-- Numbers that are not too great, and no locals. -/
def FineX (K : List Xi) : Prop := ∀ x ∈ K, 0 ≤ x.a ∧ x.a ≤ 1000 ∧ x.op ≠ 12
theorem mv_a {p : Nat} (hp : p ≤ 8) {x : Xi} (h : 0 ≤ x.a ∧ x.a ≤ 1000 ∧ x.op ≠ 12) : (mvX p x).a = if goesX x.op then x.a + p else x.a := by
  unfold mvX
  split
  · simp only
    exact wrap_id (by unfold I64; omega)
  · rfl
/-- Its ways are so many farther. -/
theorem mv_ways {p : Nat} (hp : p ≤ 8) {x : Xi} (h : 0 ≤ x.a ∧ x.a ≤ 1000 ∧ x.op ≠ 12) (k : Nat) : waysX (mvX p x) (k + p) = (waysX x k).map fun tm => (tm.1 + (p : Int), tm.2) := by
  rw [ways_doc, ways_doc, (mv_op p x).1, mv_a hp h]
  by_cases h1 : onX x.op = true
  · by_cases h2 : goesX x.op = true
    · rw [if_pos h1, if_pos h2, if_pos h1, if_pos h2, if_pos h2]
      simp
      omega
    · rw [if_pos h1, if_neg h2, if_pos h1, if_neg h2]
      simp
      omega
  · by_cases h2 : goesX x.op = true
    · rw [if_neg h1, if_pos h2, if_neg h1, if_pos h2, if_pos h2]
      simp
    · rw [if_neg h1, if_neg h2, if_neg h1, if_neg h2]
      simp
/-- No way goes below the beginning. -/
theorem fine_low {x : Xi} (h : 0 ≤ x.a ∧ x.a ≤ 1000 ∧ x.op ≠ 12) (k : Nat) : ∀ tm ∈ waysX x k, 0 ≤ tm.1 := by
  rw [ways_doc]
  intro tm htm
  rcases List.mem_append.1 htm with htm | htm
  · split at htm
    · rw [List.mem_singleton.1 htm]; simp only; omega
    · cases htm
  · split at htm
    · rw [List.mem_singleton.1 htm]; simp only; omega
    · cases htm
theorem pre_reach (p : Nat) (K : List Xi) : ∀ k : Nat, k ≤ p → Rh (mvL p K) k 0 := fun k => by
  induction k with
  | zero => exact fun _ => Rh.start
  | succ k ih =>
    intro hk
    have := Rh.step (ih (by omega)) (mv_low p K k (by omega)) (tm := ((k : Int) + 1, 0)) (by simp [waysX])
    simpa using this
theorem mv_reach {p : Nat} (hp : p ≤ 8) {K : List Xi} (hK : FineX K) {i n : Int} (r : Rh K i n) : Rh (mvL p K) (i + p) n := by
  induction r with
  | start => simpa using pre_reach p K p (Nat.le_refl _)
  | step r hx hw ih =>
    rename_i n k x tm
    have hx2 : (mvL p K)[k + p]? = some (mvX p x) := by rw [mv_high, hx]; rfl
    have := Rh.step (k := k + p) (by simpa using ih) hx2 (tm := (tm.1 + (p : Int), tm.2)) (by
      rw [mv_ways hp (hK x (List.mem_of_getElem? hx))]
      exact List.mem_map.2 ⟨tm, hw, rfl⟩)
    exact this
theorem mv_back {p : Nat} (hp : p ≤ 8) {K : List Xi} (hK : FineX K) {j n : Int} (r : Rh (mvL p K) j n) : (0 ≤ j ∧ j < p ∧ n = 0) ∨ (∃ i : Int, 0 ≤ i ∧ j = i + p ∧ Rh K i n) := by
  induction r with
  | start =>
    by_cases h : p = 0
    · subst h; exact Or.inr ⟨0, by omega, by simp, Rh.start⟩
    · exact Or.inl ⟨by omega, by omega, rfl⟩
  | step r hx hw ih =>
    rename_i n k x tm
    rcases ih with ⟨h1, h2, rfl⟩ | ⟨i, h0, h1, h2⟩
    · have hk : k < p := by omega
      rw [mv_low p K k hk] at hx
      injection hx with hx
      subst hx
      have : tm = ((k : Int) + 1, 0) := by simpa [waysX] using hw
      subst this
      by_cases e : k + 1 < p
      · exact Or.inl ⟨by simp only; omega, by simp only; omega, by simp⟩
      · exact Or.inr ⟨0, by omega, by simp only; omega, by simpa using Rh.start⟩
    · obtain ⟨q, rfl⟩ := Int.eq_ofNat_of_zero_le h0
      have hk : k = q + p := by omega
      subst hk
      rw [mv_high] at hx
      obtain ⟨y, hy, rfl⟩ := Option.map_eq_some_iff.1 hx
      have hf := hK y (List.mem_of_getElem? hy)
      rw [mv_ways hp hf] at hw
      obtain ⟨tm', hw', rfl⟩ := List.mem_map.1 hw
      exact Or.inr ⟨tm'.1, fine_low hf q tm' hw', rfl, Rh.step h2 hy hw'⟩
theorem mv_lab {p : Nat} (hp : p ≤ 8) {K : List Xi} (hK : FineX K) (h0 : 0 < K.length) {o : List Int} (h : Lab K o) : Lab (mvL p K) (List.replicate p 0 ++ o) := by
  have low : ∀ k, k < p → (List.replicate p (0 : Int) ++ o)[k]? = some 0 := fun k hk => by
    rw [List.getElem?_append_left (by simpa using hk), List.getElem?_replicate, if_pos hk]
  have high : ∀ k, (List.replicate p (0 : Int) ++ o)[k + p]? = o[k]? := fun k => by
    rw [List.getElem?_append_right (by simp), List.length_replicate, Nat.add_sub_cancel]
  refine ⟨by rw [mv_len, List.length_append, List.length_replicate, h.len], by rw [mv_len]; omega, ?_, fun k v hk hv => ?_, fun v hv => ?_, fun k v x hk hv hx => ?_⟩
  · by_cases e : p = 0
    · subst e; simpa using h.zero
    · exact low 0 (by omega)
  · by_cases e : k < p
    · rw [low k e] at hk
      injection hk with hk
      subst hk
      exact pre_reach p K k (by omega)
    · obtain ⟨q, rfl⟩ : ∃ q, k = q + p := ⟨k - p, by omega⟩
      rw [high] at hk
      have := mv_reach hp hK (h.rh q v hk hv)
      simpa using this
  · rcases List.mem_append.1 hv with hv | hv
    · have := (List.mem_replicate.1 hv).2
      subst this
      exact ⟨by omega, by simp; omega⟩
    · have := h.low v hv
      simp
      omega
  · by_cases e : k < p
    · rw [low k e] at hk
      injection hk with hk
      subst hk
      rw [mv_low p K k e] at hx
      injection hx with hx
      subst hx
      intro tm htm
      have : tm = ((k : Int) + 1, 0) := by simpa [waysX] using htm
      subst this
      refine ⟨k + 1, by simp, ?_, by simp⟩
      by_cases e2 : k + 1 < p
      · rw [low _ e2]; rfl
      · rw [show k + 1 = 0 + p by omega, high, h.zero]; rfl
    · obtain ⟨q, rfl⟩ : ∃ q, k = q + p := ⟨k - p, by omega⟩
      rw [high] at hk
      rw [mv_high] at hx
      obtain ⟨y, hy, rfl⟩ := Option.map_eq_some_iff.1 hx
      rw [mv_ways hp (hK y (List.mem_of_getElem? hy))]
      intro tm htm
      obtain ⟨tm', hw', rfl⟩ := List.mem_map.1 htm
      obtain ⟨t, e1, e2, e3⟩ := h.cl q v y hk hv hy tm' hw'
      exact ⟨t + p, by simp only; rw [e1]; simp, by rw [high]; exact e2, e3⟩
/-- So many numbers, so long a row. -/
theorem many_le : ∀ (v : Nat) (o : List Int), (∀ u : Nat, u ≤ v → (u : Int) ∈ o) → v + 1 ≤ o.length := fun v => by
  induction v with
  | zero => intro o h; exact List.length_pos_of_mem (h 0 (Nat.le_refl _))
  | succ v ih =>
    intro o h
    have h1 := ih (o.filter fun x => decide (x ≠ ((v + 1 : Nat) : Int))) fun u hu => List.mem_filter.2 ⟨h u (by omega), by simp; omega⟩
    have h2 : (o.filter fun x => decide (x ≠ ((v + 1 : Nat) : Int))).length < o.length := by
      rw [List.length_filter_lt_length_iff_exists]
      exact ⟨_, h (v + 1) (Nat.le_refl _), by simp⟩
    omega
theorem closed_many {K : List Xi} {o : List Int} (hz : o[0]? = some 0) (hcl : ∀ (k : Nat) v x, o[k]? = some v → v ≠ -1 → K[k]? = some x → Cl o v (waysX x k)) {i n : Int} (r : Rh K i n) : (∃ k : Nat, i = k ∧ o[k]? = some n ∧ 0 ≤ n) ∧ ∀ u : Nat, (u : Int) ≤ n → (u : Int) ∈ o := by
  induction r with
  | start =>
    refine ⟨⟨0, rfl, hz, by omega⟩, fun u hu => ?_⟩
    have hu0 : u = 0 := by omega
    subst hu0
    exact List.mem_of_getElem? hz
  | step r hx hw ih =>
    rename_i n k x tm
    obtain ⟨⟨k', e, h1, h2⟩, h3⟩ := ih
    have e := Int.ofNat.inj e
    subst e
    obtain ⟨t, e1, e2, e3⟩ := hcl _ _ _ h1 (by omega) hx _ hw
    refine ⟨⟨t, e1, e2, e3⟩, fun u hu => ?_⟩
    have hm := (ways_more x k tm hw).2
    by_cases hu2 : (u : Int) ≤ n
    · exact h3 u hu2
    · have : (u : Int) = n + tm.2 := by omega
      rw [this]
      exact List.mem_of_getElem? e2
theorem mv_unlab {p : Nat} (hp : p ≤ 8) {K : List Xi} (hK : FineX K) (h0 : 0 < K.length) {o : List Int} (h : Lab (mvL p K) o) : Lab K (o.drop p) := by
  have hl := h.len
  rw [mv_len] at hl
  have get : ∀ k : Nat, (o.drop p)[k]? = o[k + p]? := fun k => by rw [List.getElem?_drop, Nat.add_comm]
  have hz : (o.drop p)[0]? = some 0 := by
    rw [get, Nat.zero_add]
    obtain ⟨k, e, h1, _⟩ := h.reach (pre_reach p K p (Nat.le_refl _))
    have e := Int.ofNat.inj e
    subst e
    exact h1
  have hrh : ∀ (k : Nat) v, (o.drop p)[k]? = some v → v ≠ -1 → Rh K k v := fun k v hk hv => by
    rw [get] at hk
    rcases mv_back hp hK (h.rh (k + p) v hk hv) with ⟨_, h2, _⟩ | ⟨i, _, h2, h3⟩
    · push_cast at h2; omega
    · have : i = (k : Int) := by push_cast at h2; omega
      subst this
      exact h3
  have hcl : ∀ (k : Nat) v x, (o.drop p)[k]? = some v → v ≠ -1 → K[k]? = some x → Cl (o.drop p) v (waysX x k) := fun k v x hk hv hx => by
    rw [get] at hk
    have hx2 : (mvL p K)[k + p]? = some (mvX p x) := by rw [mv_high, hx]; rfl
    have hf := hK x (List.mem_of_getElem? hx)
    have hcl := h.cl (k + p) v _ hk hv hx2
    rw [mv_ways hp hf] at hcl
    intro tm htm
    obtain ⟨t, e1, e2, e3⟩ := hcl (tm.1 + (p : Int), tm.2) (List.mem_map.2 ⟨tm, htm, rfl⟩)
    have hlow := fine_low hf k tm htm
    simp only at e1
    obtain ⟨q, rfl⟩ : ∃ q, t = q + p := ⟨t - p, by omega⟩
    exact ⟨q, by push_cast at e1; omega, by rw [get]; exact e2, e3⟩
  refine ⟨by rw [List.length_drop]; omega, h0, hz, hrh, fun v hv => ?_, hcl⟩
  have h1 := h.low v (List.mem_of_mem_drop hv)
  refine ⟨h1.1, ?_⟩
  obtain ⟨k, hk, e⟩ := List.getElem_of_mem hv
  have hk2 : (o.drop p)[k]? = some v := by rw [List.getElem?_eq_getElem hk, e]
  by_cases e1 : v = -1
  · omega
  · obtain ⟨m, rfl⟩ := Int.eq_ofNat_of_zero_le (show 0 ≤ v by omega)
    have := many_le m (o.drop p) fun u hu => (closed_many hz hcl (hrh k _ hk2 e1)).2 u (by omega)
    omega
/-- Behind jumps alone nothing is there. -/
theorem pre_bad (p : Nat) (hp : 0 < p) : Bad (preX p) := by
  have r := pre_reach p [] p (Nat.le_refl _)
  have e : mvL p [] = preX p := by simp [mvL]
  rw [e] at r
  exact ⟨_, _, r, Or.inr (Or.inr (Or.inl (by rw [pre_len]; exact Int.le_refl _)))⟩
theorem mv_zero {K : List Xi} (hw : ∀ x ∈ K, WellX x) : mvL 0 K = K := by
  have : K.map (mvX 0) = K := by
    rw [List.map_congr_left (g := id) fun x hx => by
      unfold mvX
      split
      · have := hw x hx
        rw [show x.a + ((0 : Nat) : Int) = x.a by simp, wrap_id this.a]
        rfl
      · rfl]
    simp
  simp [mvL, preX, this]
theorem fine_loc {K : List Xi} (hK : FineX K) : locX K = 0 := by
  cases K with
  | nil => rfl
  | cons x r =>
    simp only [locX]
    rw [if_neg (hK x (List.mem_cons_self)).2.2]
theorem mv_fit {p : Nat} (h1 : 1 ≤ p) (hp : p ≤ 8) {K : List Xi} (hK : FineX K) (h0 : 0 < K.length) : FitAll (mvL p K) 5 ↔ FitAll K 5 := by
  have hloc : locX (mvL p K) = 0 := by
    have h := mv_low p K 0 (by omega)
    cases hm : mvL p K with
    | nil => rw [hm] at h; cases h
    | cons a r =>
      rw [hm] at h
      simp at h
      subst h
      rfl
  have hk := fine_loc hK
  have hone : ∀ (k : Nat) x, K[k]? = some x → (fitX 0 ((p + K.length : Nat) : Int) 5 (k + p) (mvX p x) = true ↔ fitX 0 (K.length : Int) 5 k x = true) := fun k x hx => by
    have hf := hK x (List.mem_of_getElem? hx)
    rw [fit_split, fit_split, (mv_op p x).1, (mv_op p x).2, mv_a hp hf]
    by_cases h2 : goesX x.op = true
    · have hkd : kindX x.op = 2 := by
        unfold goesX at h2
        have := of_decide_eq_true h2
        rcases this with e | e | e | e | e | e | e <;> rw [e] <;> rfl
      rw [if_pos h2, hkd]
      simp [spanX]
      omega
    · have hkd : kindX x.op ≠ 2 ∨ ¬ x.op < 16 := by
        by_cases h16 : x.op < 16
        · left
          intro hh
          apply h2
          have h3 : x.op ∈ List.range 16 := List.mem_range.2 h16
          simp only [List.range, List.range.loop, List.mem_cons, List.not_mem_nil, or_false] at h3
          rcases h3 with e | e | e | e | e | e | e | e | e | e | e | e | e | e | e | e <;> rw [e] at hh ⊢ <;> first | rfl | (exact absurd hh (by decide))
        · exact Or.inr h16
      rw [if_neg h2]
      constructor
      · rintro ⟨a1, a2, a3, a4⟩
        refine ⟨a1, ?_, by omega, a4⟩
        have hk2 : kindX x.op ≠ 2 := by omega
        unfold spanX at a2 ⊢
        simp only [if_neg hk2] at a2 ⊢
        exact a2
      · rintro ⟨a1, a2, a3, a4⟩
        refine ⟨a1, ?_, by omega, a4⟩
        have hk2 : kindX x.op ≠ 2 := by omega
        unfold spanX at a2 ⊢
        simp only [if_neg hk2] at a2 ⊢
        exact a2
  constructor
  · intro h k x hx
    have := h (k + p) (mvX p x) (by rw [mv_high, hx]; rfl)
    rw [hloc, mv_len] at this
    rw [hk]
    exact (hone k x hx).1 this
  · intro h j y hy
    rw [hloc, mv_len]
    by_cases e : j < p
    · rw [mv_low p K j e] at hy
      injection hy with hy
      subst hy
      rw [fit_split]
      simp [kindX, spanX]
      omega
    · obtain ⟨q, rfl⟩ : ∃ q, j = q + p := ⟨j - p, by omega⟩
      rw [mv_high] at hy
      obtain ⟨x, hx, rfl⟩ := Option.map_eq_some_iff.1 hy
      have := h q x hx
      rw [hk] at this
      exact (hone q x hx).2 this
/-- Behind the jumps a definition may be just if it may be alone. -/
theorem mv_may {p : Nat} (h1 : 1 ≤ p) (hp : p ≤ 8) {K : List Xi} (hK : FineX K) (h0 : 0 < K.length) (hl : K.length ≤ 30) : MayP (mvL p K) 5 ↔ MayP K 5 := by
  have key : ∀ o : List Int, Lab K o → (MayP (mvL p K) 5 ↔ MayP K 5) := fun o h => by
    obtain ⟨x, v, hx, hv⟩ := last_there h
    have hidx : (mvL p K).length - 1 = (K.length - 1) + p := by rw [mv_len]; omega
    rw [MayP.of (by omega) h hx hv, MayP.of (x := mvX p x) (v := v) (by rw [mv_len]; omega) (mv_lab hp hK h0 h) (by rw [hidx, mv_high, hx]; rfl) (by rw [hidx, List.getElem?_append_right (by simp), List.length_replicate, Nat.add_sub_cancel]; exact hv), mv_fit h1 hp hK h0]
    unfold endX
    rw [(mv_op p x).1]
  constructor
  · intro h
    have h' := h
    obtain ⟨_, o, _, _, hlab, _⟩ := h'
    exact (key _ (mv_unlab hp hK h0 hlab)).1 h
  · intro h
    have h' := h
    obtain ⟨_, o, _, _, hlab, _⟩ := h'
    exact (key _ hlab).2 h
end Go.Proofs.YtheealjhmndbgaaDoor
