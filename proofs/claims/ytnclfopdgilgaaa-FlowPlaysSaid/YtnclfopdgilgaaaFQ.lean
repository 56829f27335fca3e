/- Layer 11: what each part does keeps a builder right; Do of the program is that, whatever the part. Condition: the block is a builder (Bl), and it is right (OkB). -/
import Derived.Test.YtnclfopdgilgaaaFP
namespace Go.Proofs.Ytnclfopdgilgaaa
open Go.RowKit
set_option linter.unusedVariables false

theorem OkB.lay {B : Bd} (h : OkB B) (hl : B.L.length < 499) {x : Xi} (hx : WellX x) : OkB (layB x B) :=
  ⟨by simp [layB]; omega, h.dep, fun y hy => (List.mem_append.1 hy).elim (h.well y) fun e => by rw [List.mem_singleton.1 e]; exact hx, fun q hq => (h.part q hq).up (by simp [layB])⟩
theorem well_op (n : Nat) (h : n < 256) : WellX ⟨n, 0, 0⟩ := ⟨h, by unfold I64; simp, by unfold I64; simp⟩
theorem OkB.opened {B : Bd} (h : OkB B) (hd : B.P.length < 32) {k : Nat} {g : List Nat} (hp : OkP B.L.length ⟨k, B.L.length, g⟩) : OkB (openB k g B) :=
  ⟨h.len, by simp [openB]; omega, h.well, fun q hq => (List.mem_append.1 hq).elim (h.part q) fun e => by rw [List.mem_singleton.1 e]; exact hp⟩
theorem okp_plain {n k : Nat} (hk : k = 2 ∨ k = 3 ∨ k = 4) : OkP n ⟨k, n, []⟩ := ⟨Nat.le_refl _, by simp, by simp, by rintro (e | e) <;> (simp only at e; omega), fun _ => rfl, by simp only; omega⟩
theorem okp_gap {n k : Nat} (hn : 1 ≤ n) (hk : k = 1 ∨ k = 3 ∨ k = 5) : OkP n ⟨k, n, [n - 1]⟩ := ⟨Nat.le_refl _, by simpa using hn, by simp; omega, fun _ => ⟨_, rfl⟩, fun e => by simp only at e; omega, by simp only; omega⟩
theorem OkB.cut {L L' : List Xi} {C D : List Pk} (h : OkB ⟨L, C ++ D⟩) (hl : L'.length = L.length) (hw : ∀ x ∈ L', WellX x) : OkB ⟨L', C⟩ :=
  ⟨by have := h.len; simp only at this ⊢; omega, by have := h.dep; simp only [List.length_append] at this ⊢; omega, hw, fun q hq => by have := h.part q (List.mem_append_left _ hq); simp only at this ⊢; rw [hl]; exact this⟩
theorem OkB.closed {L : List Xi} {C : List Pk} {q : Pk} (h : OkB ⟨L, C ++ [q]⟩) : OkB ⟨closeL L.length q.g L, C⟩ :=
  h.cut (closeL_len _ _ _) (closeL_well _ (by have := h.len; simp only at this; omega) _ _ h.well)
theorem OkB.set {L : List Xi} {P : List Pk} (h : OkB ⟨L, P⟩) (i a : Nat) (ha : a ≤ 1000000) : OkB ⟨setA L i a, P⟩ :=
  ⟨by have := h.len; simp only [setA_len] at this ⊢; exact this, h.dep, setA_well L i a ha h.well, fun q hq => by have := h.part q hq; simp only [setA_len] at this ⊢; exact this⟩
theorem OkB.top {L : List Xi} {C : List Pk} {q : Pk} (h : OkB ⟨L, C ++ [q]⟩) : OkP L.length q := h.part q (by simp)
theorem OkB.gone {L : List Xi} {C : List Pk} {q : Pk} (h : OkB ⟨L, C ++ [q]⟩) (i : Nat) : OkB ⟨closeL L.length q.g (setA L i q.s), C⟩ := by
  have hs := h.top.s
  have hl := h.len
  simp only at hl
  have h2 := (h.set i q.s (by omega)).closed
  rwa [setA_len] at h2
theorem OkB.more {L : List Xi} {C D : List Pk} {q : Pk} (h : OkB ⟨L, C ++ q :: D⟩) {i : Nat} (hi : i < L.length) (hk : q.k = 3 ∨ q.k = 4) (hm : q.g.length < L.length) : OkB ⟨L, C ++ { q with g := q.g ++ [i] } :: D⟩ :=
  ⟨h.len, by have := h.dep; simpa using this, h.well, fun x hx => by
    have hq := h.part q (by simp)
    rcases List.mem_append.1 hx with hx | hx
    · exact h.part x (by simp [hx])
    · rcases List.mem_cons.1 hx with rfl | hx
      · refine ⟨hq.s, by simp only [List.length_append, List.length_singleton]; exact hm, fun j hj => ?_, fun e => by simp only at e; omega, fun e => by simp only at e; omega, hq.kind⟩
        simp only [List.mem_append, List.mem_singleton] at hj
        rcases hj with hj | rfl
        · exact hq.lt j hj
        · exact hi
      · exact h.part x (by simp [hx])⟩
theorem gone_snoc (L : List Xi) (C : List Pk) (r q : Pk) : closeB (backB ⟨L, C ++ [r, q]⟩) = ⟨closeL L.length r.g (closeL L.length q.g (setA L (L.length - 1) q.s)), C⟩ := by
  rw [show C ++ [r, q] = (C ++ [r]) ++ [q] by simp, back_snoc, close_snoc, closeL_len, setA_len]
theorem move_snoc (L : List Xi) (C : List Pk) (q : Pk) : gapB (closeB ⟨L, C ++ [q]⟩) = openB 1 [L.length - 1] ⟨closeL L.length q.g L, C⟩ := by
  rw [close_snoc]
  unfold gapB
  simp only [closeL_len]
theorem branch_snoc (L : List Xi) (C : List Pk) (r q : Pk) : branchB ⟨L, C ++ [r, q]⟩ = ⟨closeL L.length q.g L, C ++ [{ r with g := r.g ++ [L.length - 1] }]⟩ := by
  unfold branchB
  rw [show C ++ [r, q] = (C ++ [r]) ++ [q] by simp, close_snoc]
  simp only [closeL_len, List.length_append, List.length_singleton, Nat.add_sub_cancel]
  rw [more_snoc]
theorem leave_mid (L : List Xi) (C : List Pk) (q : Pk) (D : List Pk) (hq : q.k = 3) (hD : ∀ d ∈ D, d.k ≠ 3) : leaveB ⟨L, C ++ q :: D⟩ = ⟨L, C ++ { q with g := q.g ++ [L.length - 1] } :: D⟩ := by
  unfold leaveB
  simp only
  rw [topmost_is hq hD, Int.toNat_natCast, more_at]
/-- What a part that fits does, as facts: the act, and that the builder is right then. -/
theorem do_case {B : Bd} (h : OkB B) (n : Int) (r : Rw) (hn : rowI n = some r) (hf : fitsB r B.P = true) (hr : roomB r B = true) :
    Acts (actF r.act) (if r.lays = 0 then B else layB ⟨r.lays, 0, 0⟩ B) (actB r.act (if r.lays = 0 then B else layB ⟨r.lays, 0, 0⟩ B)) ∧ OkB (actB r.act (if r.lays = 0 then B else layB ⟨r.lays, 0, 0⟩ B)) := by
  obtain ⟨L, P⟩ := B
  have hlen := h.len
  have hdep := h.dep
  simp only at hlen hdep
  rcases row_ends n with e | ⟨h1, h2⟩
  · rw [e] at hn; cases hn
  have hll : ∀ x : Xi, (L ++ [x]).length = L.length + 1 := fun x => by simp
  have hc : n = 1 ∨ n = 2 ∨ n = 3 ∨ n = 4 ∨ n = 5 ∨ n = 6 ∨ n = 7 ∨ n = 8 ∨ n = 9 ∨ n = 10 ∨ n = 11 ∨ n = 12 ∨ n = 13 ∨ n = 14 ∨ n = 15 ∨ n = 16 ∨ n = 17 := by omega
  have back : ∀ {op : Nat} (hop : op < 256) {k : Nat}, endsB [k] P = true → L.length < 499 → Acts (actF 6) ⟨L ++ [Xi.mk op 0 0], P⟩ (backB ⟨L ++ [Xi.mk op 0 0], P⟩) ∧ OkB (backB ⟨L ++ [Xi.mk op 0 0], P⟩) := fun {op} hop {k} he hl => by
    obtain ⟨C, q, rfl, _⟩ := ends_one he
    have hL := h.lay (x := ⟨op, 0, 0⟩) hl (well_op op hop)
    have hq := h.top
    rw [back_snoc, hll, Nat.add_sub_cancel, ← hll ⟨op, 0, 0⟩]
    exact ⟨back_acts _ C q L.length (hll _) (by omega) (by simp at hdep; omega) (fun j hj => by have := hq.lt j hj; rw [hll]; omega) (by have := hq.many; omega), hL.gone L.length⟩
  rcases hc with rfl | rfl | rfl | rfl | rfl | rfl | rfl | rfl | rfl | rfl | rfl | rfl | rfl | rfl | rfl | rfl | rfl
  · obtain rfl : (⟨[], 0, 4, true, 0⟩ : Rw) = r := Option.some.inj ((show rowI 1 = some _ from rfl).symm.trans hn)
    simp [roomB] at hr
    have hL := h.lay (x := ⟨4, 0, 0⟩) hr.1 (well_op 4 (by decide))
    exact ⟨gap_acts (layB ⟨4, 0, 0⟩ ⟨L, P⟩) L.length (hll _) (by omega) (by show P.length ≤ 1000; omega), hL.opened hr.2 (okp_gap (by simp [layB]) (Or.inl rfl))⟩
  · obtain rfl : (⟨[1], 0, 3, false, 1⟩ : Rw) = r := Option.some.inj ((show rowI 2 = some _ from rfl).symm.trans hn)
    simp [roomB] at hr
    simp [fitsB] at hf
    obtain ⟨C, q, rfl, _⟩ := ends_one hf
    have hL := h.lay (x := ⟨3, 0, 0⟩) hr (well_op 3 (by decide))
    have hq := h.top
    have e : actB 1 (layB ⟨3, 0, 0⟩ ⟨L, C ++ [q]⟩) = openB 1 [(L ++ [Xi.mk 3 0 0]).length - 1] ⟨closeL (L ++ [Xi.mk 3 0 0]).length q.g (L ++ [Xi.mk 3 0 0]), C⟩ := move_snoc _ C q
    refine ⟨?_, ?_⟩
    · show Acts _ _ (actB 1 (layB ⟨3, 0, 0⟩ ⟨L, C ++ [q]⟩))
      rw [e]
      exact move_acts (L ++ [Xi.mk 3 0 0]) C q L.length (hll _) (by omega) (by simp at hdep; omega) (fun j hj => by have := hq.lt j hj; rw [hll]; omega) (by have := hq.many; omega)
    · show OkB (actB 1 (layB ⟨3, 0, 0⟩ ⟨L, C ++ [q]⟩))
      rw [e]
      have hC : OkB ⟨closeL (L ++ [Xi.mk 3 0 0]).length q.g (L ++ [Xi.mk 3 0 0]), C⟩ := OkB.closed hL
      refine hC.opened (by simp at hdep; simp only; omega) ?_
      have := okp_gap (n := (closeL (L ++ [Xi.mk 3 0 0]).length q.g (L ++ [Xi.mk 3 0 0])).length) (k := 1) (by rw [closeL_len, hll]; omega) (Or.inl rfl)
      rw [closeL_len] at this ⊢
      exact this
  · obtain rfl : (⟨[1], 0, 0, false, 2⟩ : Rw) = r := Option.some.inj ((show rowI 3 = some _ from rfl).symm.trans hn)
    simp [fitsB] at hf
    obtain ⟨C, q, rfl, _⟩ := ends_one hf
    have hq := h.top
    have e : actB 2 ⟨L, C ++ [q]⟩ = ⟨closeL L.length q.g L, C⟩ := close_snoc L C q
    refine ⟨?_, ?_⟩
    · show Acts _ _ (actB 2 ⟨L, C ++ [q]⟩)
      rw [e]
      exact fun w p S hb => close_bl hb (by simp at hdep; omega) (by omega) hq.lt (by have := hq.many; omega)
    · show OkB (actB 2 ⟨L, C ++ [q]⟩)
      rw [e]
      exact h.closed
  · obtain rfl : (⟨[], 0, 0, true, 3⟩ : Rw) = r := Option.some.inj ((show rowI 4 = some _ from rfl).symm.trans hn)
    simp [roomB] at hr
    exact ⟨goal_acts ⟨L, P⟩ (by show P.length ≤ 1000; omega), h.opened hr (okp_plain (Or.inl rfl))⟩
  · obtain rfl : (⟨[2], 0, 4, true, 4⟩ : Rw) = r := Option.some.inj ((show rowI 5 = some _ from rfl).symm.trans hn)
    simp [roomB] at hr
    simp [fitsB] at hf
    obtain ⟨C, q, rfl, _⟩ := ends_one hf
    have hL := h.lay (x := ⟨4, 0, 0⟩) hr.1 (well_op 4 (by decide))
    have e : actB 4 (layB ⟨4, 0, 0⟩ ⟨L, C ++ [q]⟩) = ⟨L ++ [Xi.mk 4 0 0], C ++ [⟨1, (L ++ [Xi.mk 4 0 0]).length, [L.length]⟩, q]⟩ := by
      have := below_snoc (L ++ [Xi.mk 4 0 0]) C q
      rw [hll, Nat.add_sub_cancel] at this
      rw [hll]
      exact this
    refine ⟨?_, ?_⟩
    · show Acts _ _ (actB 4 (layB ⟨4, 0, 0⟩ ⟨L, C ++ [q]⟩))
      rw [e]
      exact below_acts (L ++ [Xi.mk 4 0 0]) C q L.length (hll _) (by omega) (by simp at hdep; omega)
    · show OkB (actB 4 (layB ⟨4, 0, 0⟩ ⟨L, C ++ [q]⟩))
      rw [e]
      refine ⟨hL.len, by simp at hdep hr ⊢; omega, hL.well, fun x hx => ?_⟩
      rcases List.mem_append.1 hx with hx | hx
      · exact hL.part x (by simp [layB, hx])
      · rcases List.mem_cons.1 hx with rfl | hx
        · have := okp_gap (n := (L ++ [(⟨4, 0, 0⟩ : Xi)]).length) (k := 1) (by rw [hll]; omega) (Or.inl rfl)
          rw [hll, Nat.add_sub_cancel] at this
          simp only [hll]
          exact this
        · exact hL.part x (by simp only [List.mem_singleton] at hx; simp [layB, hx])
  · obtain rfl : (⟨[1, 2], 0, 3, false, 5⟩ : Rw) = r := Option.some.inj ((show rowI 6 = some _ from rfl).symm.trans hn)
    simp [roomB] at hr
    simp [fitsB] at hf
    obtain ⟨C, p, q, rfl, _, _⟩ := ends_two hf
    have hL := h.lay (x := ⟨3, 0, 0⟩) hr (well_op 3 (by decide))
    have hp := h.part p (by simp)
    have hq := h.part q (by simp)
    have e : actB 5 (layB ⟨3, 0, 0⟩ ⟨L, C ++ [p, q]⟩) = ⟨closeL (L ++ [Xi.mk 3 0 0]).length p.g (closeL (L ++ [Xi.mk 3 0 0]).length q.g (setA (L ++ [Xi.mk 3 0 0]) L.length q.s)), C⟩ := by
      have := gone_snoc (L ++ [Xi.mk 3 0 0]) C p q
      rw [hll, Nat.add_sub_cancel] at this
      rw [hll]
      exact this
    refine ⟨?_, ?_⟩
    · show Acts _ _ (actB 5 (layB ⟨3, 0, 0⟩ ⟨L, C ++ [p, q]⟩))
      rw [e]
      exact repeat_acts (L ++ [Xi.mk 3 0 0]) C p q L.length (hll _) (by omega) (by simp at hdep; omega) (fun j hj => by have := hq.lt j hj; rw [hll]; simp only at this; omega) (by have := hq.many; simp only at this; omega) (fun j hj => by have := hp.lt j hj; rw [hll]; simp only at this; omega) (by have := hp.many; simp only at this; omega)
    · show OkB (actB 5 (layB ⟨3, 0, 0⟩ ⟨L, C ++ [p, q]⟩))
      rw [e]
      have hL2 : OkB ⟨L ++ [Xi.mk 3 0 0], (C ++ [p]) ++ [q]⟩ := by simpa [layB] using hL
      have h3 := (hL2.gone L.length).closed
      rw [closeL_len, setA_len] at h3
      exact h3
  · obtain rfl : (⟨[2], 0, 4, false, 6⟩ : Rw) = r := Option.some.inj ((show rowI 7 = some _ from rfl).symm.trans hn)
    simp [roomB] at hr
    simp [fitsB] at hf
    exact back (by decide) hf hr
  · obtain rfl : (⟨[2], 0, 3, false, 6⟩ : Rw) = r := Option.some.inj ((show rowI 8 = some _ from rfl).symm.trans hn)
    simp [roomB] at hr
    simp [fitsB] at hf
    exact back (by decide) hf hr
  · obtain rfl : (⟨[], 0, 5, true, 7⟩ : Rw) = r := Option.some.inj ((show rowI 9 = some _ from rfl).symm.trans hn)
    simp [roomB] at hr
    have hL := h.lay (x := ⟨5, 0, 0⟩) hr.1 (well_op 5 (by decide))
    exact ⟨loop_acts (layB ⟨5, 0, 0⟩ ⟨L, P⟩) (by show P.length ≤ 1000; omega), hL.opened hr.2 (okp_plain (Or.inr (Or.inl rfl)))⟩
  · obtain rfl : (⟨[], 0, 6, true, 8⟩ : Rw) = r := Option.some.inj ((show rowI 10 = some _ from rfl).symm.trans hn)
    simp [roomB] at hr
    have hL := h.lay (x := ⟨6, 0, 0⟩) hr.1 (well_op 6 (by decide))
    exact ⟨qloop_acts (layB ⟨6, 0, 0⟩ ⟨L, P⟩) L.length (hll _) (by omega) (by show P.length ≤ 1000; omega), hL.opened hr.2 (okp_gap (by simp [layB]) (Or.inr (Or.inl rfl)))⟩
  · obtain rfl : (⟨[3], 0, 7, false, 6⟩ : Rw) = r := Option.some.inj ((show rowI 11 = some _ from rfl).symm.trans hn)
    simp [roomB] at hr
    simp [fitsB] at hf
    exact back (by decide) hf hr
  · obtain rfl : (⟨[3], 0, 8, false, 6⟩ : Rw) = r := Option.some.inj ((show rowI 12 = some _ from rfl).symm.trans hn)
    simp [roomB] at hr
    simp [fitsB] at hf
    exact back (by decide) hf hr
  · obtain rfl : (⟨[], 3, 9, false, 9⟩ : Rw) = r := Option.some.inj ((show rowI 13 = some _ from rfl).symm.trans hn)
    simp [roomB] at hr
    simp [fitsB] at hf
    have hL := h.lay (x := ⟨9, 0, 0⟩) hr (well_op 9 (by decide))
    obtain ⟨j, hj⟩ := Int.eq_ofNat_of_zero_le hf.2
    obtain ⟨C, q, D, rfl, _, hq3, hD⟩ := topmost_at hj
    have hq := h.part q (by simp)
    have e : actB 9 (layB ⟨9, 0, 0⟩ ⟨L, C ++ q :: D⟩) = ⟨L ++ [Xi.mk 9 0 0], C ++ { q with g := q.g ++ [L.length] } :: D⟩ := by
      have := leave_mid (L ++ [Xi.mk 9 0 0]) C q D hq3 hD
      rw [hll, Nat.add_sub_cancel] at this
      exact this
    refine ⟨?_, ?_⟩
    · show Acts _ _ (actB 9 (layB ⟨9, 0, 0⟩ ⟨L, C ++ q :: D⟩))
      rw [e]
      exact leave_acts (L ++ [Xi.mk 9 0 0]) C q D L.length (hll _) (by omega) (by omega) hq3 hD (by have := hq.many; simp only at this; omega)
    · show OkB (actB 9 (layB ⟨9, 0, 0⟩ ⟨L, C ++ q :: D⟩))
      rw [e]
      exact OkB.more hL (by rw [hll]; omega) (Or.inl hq3) (by rw [hll]; have := hq.many; simp only at this; omega)
  · obtain rfl : (⟨[], 0, 0, true, 10⟩ : Rw) = r := Option.some.inj ((show rowI 14 = some _ from rfl).symm.trans hn)
    simp [roomB] at hr
    exact ⟨choice_acts ⟨L, P⟩ (by show P.length ≤ 1000; omega), h.opened hr (okp_plain (Or.inr (Or.inr rfl)))⟩
  · obtain rfl : (⟨[4], 0, 10, true, 11⟩ : Rw) = r := Option.some.inj ((show rowI 15 = some _ from rfl).symm.trans hn)
    simp [roomB] at hr
    have hL := h.lay (x := ⟨10, 0, 0⟩) hr.1 (well_op 10 (by decide))
    exact ⟨branch_acts (layB ⟨10, 0, 0⟩ ⟨L, P⟩) L.length (hll _) (by omega) (by show P.length ≤ 1000; omega), hL.opened hr.2 (okp_gap (by simp [layB]) (Or.inr (Or.inr rfl)))⟩
  · obtain rfl : (⟨[4, 5], 0, 3, false, 12⟩ : Rw) = r := Option.some.inj ((show rowI 16 = some _ from rfl).symm.trans hn)
    simp [roomB] at hr
    simp [fitsB] at hf
    obtain ⟨C, p, q, rfl, hp4, _⟩ := ends_two hf
    have hL := h.lay (x := ⟨3, 0, 0⟩) hr (well_op 3 (by decide))
    have hp := h.part p (by simp)
    have hq := h.part q (by simp)
    have e : actB 12 (layB ⟨3, 0, 0⟩ ⟨L, C ++ [p, q]⟩) = ⟨closeL (L ++ [Xi.mk 3 0 0]).length q.g (L ++ [Xi.mk 3 0 0]), C ++ [{ p with g := p.g ++ [L.length] }]⟩ := by
      have := branch_snoc (L ++ [Xi.mk 3 0 0]) C p q
      rw [hll, Nat.add_sub_cancel] at this
      rw [hll]
      exact this
    refine ⟨?_, ?_⟩
    · show Acts _ _ (actB 12 (layB ⟨3, 0, 0⟩ ⟨L, C ++ [p, q]⟩))
      rw [e]
      exact endbr_acts (L ++ [Xi.mk 3 0 0]) C p q L.length (hll _) (by omega) (by simp at hdep; omega) (fun j hj => by have := hq.lt j hj; rw [hll]; simp only at this; omega) (by have := hq.many; simp only at this; omega) (by have := hp.many; simp only at this; omega)
    · show OkB (actB 12 (layB ⟨3, 0, 0⟩ ⟨L, C ++ [p, q]⟩))
      rw [e]
      have hL2 : OkB ⟨L ++ [Xi.mk 3 0 0], (C ++ [p]) ++ [q]⟩ := by simpa [layB] using hL
      exact OkB.more (D := []) (i := L.length) hL2.closed (by rw [closeL_len, hll]; omega) (Or.inr hp4) (by rw [closeL_len, hll]; have := hp.many; simp only at this; omega)
  · obtain rfl : (⟨[4], 0, 11, false, 2⟩ : Rw) = r := Option.some.inj ((show rowI 17 = some _ from rfl).symm.trans hn)
    simp [roomB] at hr
    simp [fitsB] at hf
    obtain ⟨C, q, rfl, _⟩ := ends_one hf
    have hL := h.lay (x := ⟨11, 0, 0⟩) hr (well_op 11 (by decide))
    have hq := h.top
    have e : actB 2 (layB ⟨11, 0, 0⟩ ⟨L, C ++ [q]⟩) = ⟨closeL (L ++ [Xi.mk 11 0 0]).length q.g (L ++ [Xi.mk 11 0 0]), C⟩ := close_snoc _ C q
    refine ⟨?_, ?_⟩
    · show Acts _ _ (actB 2 (layB ⟨11, 0, 0⟩ ⟨L, C ++ [q]⟩))
      rw [e]
      exact fun w p S hb => close_bl hb (by simp at hdep; omega) (by rw [hll]; omega) (fun j hj => by have := hq.lt j hj; rw [hll]; omega) (by have := hq.many; omega)
    · show OkB (actB 2 (layB ⟨11, 0, 0⟩ ⟨L, C ++ [q]⟩))
      rw [e]
      exact OkB.closed hL
/-- The builder stays right. -/
theorem OkB.does {B : Bd} (h : OkB B) (n : Int) : OkB (doB n B).2 := by
  unfold doB
  cases hn : rowI n with
  | none => exact h
  | some r =>
    simp only
    split
    · rename_i hf
      split
      · rename_i hr
        exact (do_case h n r hn hf hr).2
      · exact h
    · exact h
set_option maxRecDepth 100000 in
theorem enter_act (n : Int) (r : Rw) (hn : rowI n = some r) (p : Nat) : ∀ W, (callFunc (actF r.act) #[Pt p]).run Try.prog W = .ok (.enter (actF r.act) #[Pt p]) W := by
  rcases row_ends n with e | ⟨h1, h2⟩
  · rw [e] at hn; cases hn
  have hc : n = 1 ∨ n = 2 ∨ n = 3 ∨ n = 4 ∨ n = 5 ∨ n = 6 ∨ n = 7 ∨ n = 8 ∨ n = 9 ∨ n = 10 ∨ n = 11 ∨ n = 12 ∨ n = 13 ∨ n = 14 ∨ n = 15 ∨ n = 16 ∨ n = 17 := by omega
  rcases hc with rfl | rfl | rfl | rfl | rfl | rfl | rfl | rfl | rfl | rfl | rfl | rfl | rfl | rfl | rfl | rfl | rfl
  all_goals
    obtain rfl := Option.some.inj hn
    intro W
    kernel_rfl
theorem row_small (n : Int) (r : Rw) (hn : rowI n = some r) : r.lays < 256 ∧ r.needs.length ≤ 1000 := by
  rcases row_ends n with e | ⟨h1, h2⟩
  · rw [e] at hn; cases hn
  have hc : n = 1 ∨ n = 2 ∨ n = 3 ∨ n = 4 ∨ n = 5 ∨ n = 6 ∨ n = 7 ∨ n = 8 ∨ n = 9 ∨ n = 10 ∨ n = 11 ∨ n = 12 ∨ n = 13 ∨ n = 14 ∨ n = 15 ∨ n = 16 ∨ n = 17 := by omega
  rcases hc with rfl | rfl | rfl | rfl | rfl | rfl | rfl | rfl | rfl | rfl | rfl | rfl | rfl | rfl | rfl | rfl | rfl
  all_goals
    obtain rfl := Option.some.inj hn
    exact ⟨by decide, by decide⟩
/-- Do, whatever the part. -/
theorem do_calls {w : World} {p : Nat} {S : List Nat} {B : Bd} (h : Bl w p S B) (hok : OkB B) (n : Int) : Calls Try.prog 15 #[Pt p, .int .i64 n] w (Gives p S w (doB n B)) := by
  cases hn : rowI n with
  | none =>
    have e : doB n B = (1, B) := by unfold doB; rw [hn]
    rw [e]
    exact do_none h n hn
  | some r =>
    have hs := row_small n r hn
    exact do_row h (by have := hok.dep; omega) (by have := hok.len; omega) n r hn hs.1 hs.2 (enter_act n r hn p) fun hf hr => (do_case hok n r hn hf hr).1
end Go.Proofs.Ytnclfopdgilgaaa
