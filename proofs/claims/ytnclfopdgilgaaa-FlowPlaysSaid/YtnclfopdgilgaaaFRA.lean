/- Layer 11: the document's builder, as lists, beside the program's (FlowPlays). Plain: no program. No condition. Layer 11: the document's builder in memory: what lies so many parts below the top, and the top taken off. Condition: the block is a builder (Bv) of at most 1000 parts. Layer 11: the document's: what a part lays, whether it opens one, whether what it asks for is there. Condition: the block is a builder (Bv) of at most 1000 parts; a part's number. Layer 11: the document's builder: rows that are copied, and one element more; Put, push. Condition: the block is a builder (Bv) of at most 999 instructions and parts. Layer 11: the document's builder: Put that finds no room; push, pop, closes. Condition: the block is a builder (Bv) of at most 999 instructions and parts. Layer 11: the document's builder: pop. Condition: the block is a builder (Bv) of at most 999 instructions and parts. Layer 11: the document's builder: closes. Condition: the block is a builder (Bv) of at most 999 instructions; the gaps are instructions of it. Layer 11: the document's builder: leave; a gap more of a part. Condition: the block is a builder (Bv) of at most 999 parts; the topmost loop is that one. -/
import Derived.Test.YtnclfopdgilgaaaFT
import Derived.Deep.LoopGhost
import Derived.Laws.OwnMore
namespace Go.Proofs.Ytnclfopdgilgaaa
open Go.RowKit
set_option linter.unusedVariables false

/-- A part as the document holds it: kinds from 0; the place: of a gap and a branch the instruction that goes to its end; gaps of loops and choices alone. -/
def rP (q : Pk) : Pk := ⟨q.k - 1, if q.k = 1 ∨ q.k = 5 then q.g.headD 0 else if q.k = 4 then 0 else q.s, if q.k = 3 ∨ q.k = 4 then q.g else []⟩
def rB (B : Bd) : Bd := ⟨B.L, B.P.map rP⟩
def upR (kind under : Nat) (P : List Pk) : Bool := decide (under < P.length) && decide ((P.getD (P.length - 1 - under) ⟨99, 0, []⟩).k = kind)
def asksR (n : Int) (P : List Pk) : Bool :=
  if n = 2 ∨ n = 3 then upR 0 0 P else if n = 5 ∨ n = 7 ∨ n = 8 then upR 1 0 P else if n = 6 then upR 1 0 P && upR 0 1 P else if n = 11 ∨ n = 12 then upR 2 0 P
  else if n = 13 then P.any fun q => decide (q.k = 2) else if n = 15 ∨ n = 17 then upR 3 0 P else if n = 16 then upR 4 0 P && upR 3 1 P else true
def laysR (n : Int) : Nat :=
  if n = 1 ∨ n = 5 ∨ n = 7 then 4 else if n = 2 ∨ n = 6 ∨ n = 8 ∨ n = 16 then 3 else if n = 9 then 5 else if n = 10 then 6 else if n = 11 then 7 else if n = 12 then 8 else if n = 13 then 9 else if n = 15 then 10 else if n = 17 then 11 else 0
def opensR (n : Int) : Bool := decide (n = 1 ∨ n = 4 ∨ n = 5 ∨ n = 9 ∨ n = 10 ∨ n = 14 ∨ n = 15)
def actR (n : Int) (t : Nat) (B : Bd) : Bd :=
  let p := topB B
  let D := B.P.dropLast
  let q := topB ⟨B.L, D⟩
  if n = 1 then ⟨B.L, B.P ++ [⟨0, t, []⟩]⟩
  else if n = 2 then ⟨closeL B.L.length [p.s] B.L, D ++ [⟨0, t, []⟩]⟩
  else if n = 3 then ⟨closeL B.L.length [p.s] B.L, D⟩
  else if n = 4 then ⟨B.L, B.P ++ [⟨1, t, []⟩]⟩
  else if n = 5 then ⟨B.L, D ++ [⟨0, t, []⟩, p]⟩
  else if n = 6 then ⟨closeL B.L.length [q.s] (setA B.L t p.s), D.dropLast⟩
  else if n = 7 ∨ n = 8 then ⟨setA B.L t p.s, D⟩
  else if n = 9 then ⟨B.L, B.P ++ [⟨2, t + 1, []⟩]⟩
  else if n = 10 then ⟨B.L, B.P ++ [⟨2, t + 1, [t]⟩]⟩
  else if n = 11 ∨ n = 12 then ⟨closeL B.L.length p.g (setA B.L t p.s), D⟩
  else if n = 13 then ⟨B.L, moreG t B.P (topmost 2 B.P).toNat⟩
  else if n = 14 then ⟨B.L, B.P ++ [⟨3, 0, []⟩]⟩
  else if n = 15 then ⟨B.L, B.P ++ [⟨4, t, []⟩]⟩
  else if n = 16 then ⟨closeL B.L.length [p.s] B.L, D.dropLast ++ [⟨3, 0, q.g ++ [t]⟩]⟩
  else ⟨closeL B.L.length p.g B.L, D⟩
def fullR (n : Int) (B : Bd) : Bool := (decide (laysR n ≠ 0) && decide (499 ≤ B.L.length)) || (opensR n && decide (32 ≤ B.P.length))
def doR (n : Int) (B : Bd) : Int × Bd :=
  if n < 1 ∨ 17 < n then (1, B) else if asksR n B.P = false then (-22, B) else if fullR n B then (-8, B)
  else (0, actR n B.L.length (if laysR n = 0 then B else layB ⟨laysR n, 0, 0⟩ B))
theorem up_snoc (k : Nat) (C : List Pk) (q : Pk) : upR k 0 (C ++ [q]) = decide (q.k = k) := by
  unfold upR
  rw [List.getD_eq_getElem?_getD]
  simp
theorem up_snoc2 (k : Nat) (C : List Pk) (p q : Pk) : upR k 1 (C ++ [p, q]) = decide (p.k = k) := by
  unfold upR
  rw [List.getD_eq_getElem?_getD]
  simp
theorem up_nil (k u : Nat) : upR k u [] = false := by simp [upR]
theorem up_one (k : Nat) (q : Pk) : upR k 1 [q] = false := by simp [upR]
theorem ends_up {P : List Pk} (hP : ∀ q ∈ P, 1 ≤ q.k) {k : Nat} (hk : 1 ≤ k) : endsB [k] P = upR (k - 1) 0 (P.map rP) := by
  rcases List.eq_nil_or_concat P with rfl | ⟨C, q, rfl⟩
  · rw [List.map_nil, up_nil]
    unfold endsB
    simp
  · rw [List.concat_eq_append, List.map_append, List.map_cons, List.map_nil, up_snoc]
    have hq := hP q (by simp)
    by_cases h : q.k = k
    · rw [← h, ends_snoc]; simp [rP]
    · rw [ends_no h]; simp [rP]; omega
theorem ends_up2 {P : List Pk} (hP : ∀ q ∈ P, 1 ≤ q.k) {k l : Nat} (hk : 1 ≤ k) (hl : 1 ≤ l) : endsB [k, l] P = (upR (l - 1) 0 (P.map rP) && upR (k - 1) 1 (P.map rP)) := by
  rcases List.eq_nil_or_concat P with rfl | ⟨C, q, rfl⟩
  · rw [List.map_nil, up_nil]
    unfold endsB
    simp
  rw [List.concat_eq_append] at hP ⊢
  rcases List.eq_nil_or_concat C with rfl | ⟨C, p, rfl⟩
  · rw [List.nil_append, List.map_cons, List.map_nil, up_one, Bool.and_false]
    unfold endsB
    rw [decide_eq_false_iff_not]
    intro h
    have := h.length_le
    simp at this
  rw [List.concat_eq_append] at hP ⊢
  have e : C ++ [p] ++ [q] = C ++ [p, q] := by simp
  have e2 : (C ++ [p] ++ [q]).map rP = (C.map rP ++ [rP p]) ++ [rP q] := by simp
  have e3 : (C ++ [p] ++ [q]).map rP = C.map rP ++ [rP p, rP q] := by simp
  have h1 : upR (l - 1) 0 ((C ++ [p] ++ [q]).map rP) = decide (q.k - 1 = l - 1) := by rw [e2, up_snoc]; rfl
  have h2 : upR (k - 1) 1 ((C ++ [p] ++ [q]).map rP) = decide (p.k - 1 = k - 1) := by rw [e3, up_snoc2]; rfl
  rw [h1, h2]
  have hq := hP q (by simp)
  have hp := hP p (by simp)
  unfold endsB
  rw [e]
  by_cases c1 : p.k = k
  · by_cases c2 : q.k = l
    · rw [decide_eq_true (by omega : q.k - 1 = l - 1), decide_eq_true (by omega : p.k - 1 = k - 1), Bool.and_self, decide_eq_true_eq]
      exact ⟨C.map Pk.k, by simp [c1, c2]⟩
    · rw [decide_eq_false (by omega : ¬ q.k - 1 = l - 1), Bool.false_and, decide_eq_false_iff_not]
      intro ⟨t, ht⟩
      have h3 : (t ++ [k]) ++ [l] = (C.map Pk.k ++ [p.k]) ++ [q.k] := by simpa using ht
      have := (List.append_inj' h3 rfl).2
      simp at this
      omega
  · rw [decide_eq_false (by omega : ¬ p.k - 1 = k - 1), Bool.and_false, decide_eq_false_iff_not]
    intro ⟨t, ht⟩
    have h3 : (t ++ [k]) ++ [l] = (C.map Pk.k ++ [p.k]) ++ [q.k] := by simpa using ht
    have := (List.append_inj' (List.append_inj' h3 rfl).1 rfl).2
    simp at this
    omega
theorem topmost_map {P : List Pk} (hP : ∀ q ∈ P, 1 ≤ q.k) : topmost 2 (P.map rP) = topmost 3 P := by
  induction P using snocRec with
  | nil => rfl
  | snoc C q ih =>
    rw [List.map_append, List.map_cons, List.map_nil, topmost_snoc, topmost_snoc, ih fun r hr => hP r (by simp [hr])]
    have hq := hP q (by simp)
    have e : ((rP q).k = 2) = (q.k = 3) := by rw [eq_iff_iff]; show q.k - 1 = 2 ↔ _; omega
    simp only [e, List.length_map]
theorem any_top {P : List Pk} (hP : ∀ q ∈ P, 1 ≤ q.k) : ((P.map rP).any fun q => decide (q.k = 2)) = decide (0 ≤ topmost 3 P) := by
  rw [← topmost_map hP]
  induction P using snocRec with
  | nil => rfl
  | snoc C q ih =>
    rw [List.map_append, List.map_cons, List.map_nil, List.any_append, topmost_snoc, ih fun r hr => hP r (by simp [hr])]
    by_cases h : (rP q).k = 2
    · simp [h]
    · simp [h]
theorem more_map (i : Nat) (C : List Pk) (q : Pk) (D : List Pk) (hq : q.k = 3) : moreG i ((C ++ q :: D).map rP) C.length = (C ++ { q with g := q.g ++ [i] } :: D).map rP := by
  have e : (C ++ q :: D).map rP = C.map rP ++ rP q :: D.map rP := by simp
  have h := more_at i (C.map rP) (rP q) (D.map rP)
  rw [List.length_map] at h
  rw [e, h]
  simp [rP, hq]
theorem gap_one {n : Nat} {q : Pk} (h : OkP n q) (hk : q.k = 1 ∨ q.k = 5) : q.g = [(rP q).s] := by
  obtain ⟨i, hi⟩ := h.one hk
  unfold rP
  rw [if_pos hk, hi]
  rfl
/-- The document's builder does what the program's does. -/
theorem sim {B : Bd} (ok : OkB B) (n : Int) : doR n (rB B) = ((doB n B).1, rB (doB n B).2) := by
  have hk1 : ∀ q ∈ B.P, 1 ≤ q.k := fun q hq => (ok.part q hq).kind.1
  rcases row_ends n with e | ⟨h1, h2⟩
  · have e2 : doB n B = (1, B) := by unfold doB; rw [e]
    have hn : n < 1 ∨ 17 < n := by
      by_cases h : n < 1 ∨ 17 < n
      · exact h
      · exfalso
        have hc : n = 1 ∨ n = 2 ∨ n = 3 ∨ n = 4 ∨ n = 5 ∨ n = 6 ∨ n = 7 ∨ n = 8 ∨ n = 9 ∨ n = 10 ∨ n = 11 ∨ n = 12 ∨ n = 13 ∨ n = 14 ∨ n = 15 ∨ n = 16 ∨ n = 17 := by omega
        rcases hc with rfl | rfl | rfl | rfl | rfl | rfl | rfl | rfl | rfl | rfl | rfl | rfl | rfl | rfl | rfl | rfl | rfl <;> cases e
    rw [e2]
    unfold doR
    rw [if_pos hn]
  · have gen : ∀ (r : Rw) (la : Nat) (op : Bool), rowI n = some r → r.lays = la → r.opens = op → laysR n = la → opensR n = op → fitsB r B.P = asksR n (B.P.map rP) →
        (fitsB r B.P = true → ∀ L, L = (if la = 0 then B.L else B.L ++ [⟨la, 0, 0⟩]) → actR n B.L.length ⟨L, B.P.map rP⟩ = rB (actB r.act ⟨L, B.P⟩)) → doR n (rB B) = ((doB n B).1, rB (doB n B).2) := fun r la op hr hla hop hlr hor hf hact => by
      have h3 : fullR n (rB B) = !(roomB r B) := by
        have e1 : (rB B).L = B.L := rfl
        have e2 : (rB B).P.length = B.P.length := by simp [rB]
        unfold fullR roomB
        rw [hlr, hor, ← hop, ← hla, e1, e2]
        by_cases k1 : B.L.length < 499 <;> by_cases k2 : B.P.length < 32 <;> cases r.opens <;> by_cases k3 : r.lays = 0
        all_goals
          have k4 : (499 ≤ B.L.length) = ¬ (B.L.length < 499) := by rw [eq_iff_iff]; omega
          have k5 : (32 ≤ B.P.length) = ¬ (B.P.length < 32) := by rw [eq_iff_iff]; omega
          simp [k1, k2, k3, k4, k5]
      have hf2 : asksR n (rB B).P = fitsB r B.P := hf.symm
      unfold doR doB
      rw [hr, if_neg (by omega)]
      simp only [hf2, h3, hlr]
      by_cases hfit : fitsB r B.P = true
      · simp only [hfit, if_true, Bool.true_eq_false, if_false]
        by_cases hroom : roomB r B = true
        · simp only [hroom, Bool.not_true, Bool.false_eq_true, if_false, if_true]
          have h4 := hact hfit _ rfl
          rw [← hla] at h4 ⊢
          have e1 : (if r.lays = 0 then rB B else layB ⟨r.lays, 0, 0⟩ (rB B)) = ⟨if r.lays = 0 then B.L else B.L ++ [⟨r.lays, 0, 0⟩], B.P.map rP⟩ := by split <;> rfl
          have e2 : (if r.lays = 0 then B else layB ⟨r.lays, 0, 0⟩ B) = ⟨if r.lays = 0 then B.L else B.L ++ [⟨r.lays, 0, 0⟩], B.P⟩ := by split <;> rfl
          rw [e1, e2]
          exact congrArg (Prod.mk (0 : Int)) h4
        · have hroom : roomB r B = false := by simpa using hroom
          simp [hroom]
      · have hfit : fitsB r B.P = false := by simpa using hfit
        simp [hfit]
    have hc : n = 1 ∨ n = 2 ∨ n = 3 ∨ n = 4 ∨ n = 5 ∨ n = 6 ∨ n = 7 ∨ n = 8 ∨ n = 9 ∨ n = 10 ∨ n = 11 ∨ n = 12 ∨ n = 13 ∨ n = 14 ∨ n = 15 ∨ n = 16 ∨ n = 17 := by omega
    have f0 : ∀ (la a : Nat) (op : Bool), fitsB ⟨[], 0, la, op, a⟩ B.P = true := fun la a op => by unfold fitsB; simp [ends_nil]
    have f1 : ∀ (k la a : Nat) (op : Bool), fitsB ⟨[k], 0, la, op, a⟩ B.P = endsB [k] B.P := fun k la a op => by unfold fitsB; simp
    have f2 : ∀ (k l la a : Nat) (op : Bool), fitsB ⟨[k, l], 0, la, op, a⟩ B.P = endsB [k, l] B.P := fun k l la a op => by unfold fitsB; simp
    have u1 : ∀ k, 1 ≤ k → endsB [k] B.P = upR (k - 1) 0 (B.P.map rP) := fun k h => ends_up hk1 h
    obtain ⟨L0, P⟩ := B
    simp only at *
    have pt := ok.part
    simp only at pt
    rcases hc with rfl | rfl | rfl | rfl | rfl | rfl | rfl | rfl | rfl | rfl | rfl | rfl | rfl | rfl | rfl | rfl | rfl
    · refine gen ⟨[], 0, 4, true, 0⟩ 4 true rfl rfl rfl rfl rfl (by rw [f0]; rfl) fun _ L hL => ?_
      subst hL
      simp [actR, actB, gapB, openB, rB, rP]
    · refine gen ⟨[1], 0, 3, false, 1⟩ 3 false rfl rfl rfl rfl rfl (by rw [f1, u1 1 (by omega)]; rfl) fun hf L hL => ?_
      rw [f1] at hf
      obtain ⟨C, q, rfl, hq⟩ := ends_one hf
      have hg := gap_one (pt q (by simp)) (Or.inl hq)
      subst hL
      show actR 2 _ _ = rB (gapB (closeB _))
      rw [move_snoc, hg]
      simp [actR, openB, rB, topB, closeL_len]
      simp [rP]
    · refine gen ⟨[1], 0, 0, false, 2⟩ 0 false rfl rfl rfl rfl rfl (by rw [f1, u1 1 (by omega)]; rfl) fun hf L hL => ?_
      rw [f1] at hf
      obtain ⟨C, q, rfl, hq⟩ := ends_one hf
      have hg := gap_one (pt q (by simp)) (Or.inl hq)
      subst hL
      show actR 3 _ _ = rB (closeB _)
      rw [close_snoc, hg]
      simp [actR, rB, topB]
    · refine gen ⟨[], 0, 0, true, 3⟩ 0 true rfl rfl rfl rfl rfl (by rw [f0]; rfl) fun _ L hL => ?_
      subst hL
      simp [actR, actB, openB, rB, rP]
    · refine gen ⟨[2], 0, 4, true, 4⟩ 4 true rfl rfl rfl rfl rfl (by rw [f1, u1 2 (by omega)]; rfl) fun hf L hL => ?_
      rw [f1] at hf
      obtain ⟨C, q, rfl, hq⟩ := ends_one hf
      subst hL
      show actR 5 _ _ = rB (belowB _)
      rw [below_snoc]
      simp [actR, rB, topB]
      simp [rP]
    · refine gen ⟨[1, 2], 0, 3, false, 5⟩ 3 false rfl rfl rfl rfl rfl (by rw [f2, ends_up2 hk1 (by omega) (by omega)]; rfl) fun hf L hL => ?_
      rw [f2] at hf
      obtain ⟨C, p, q, rfl, hp, hq⟩ := ends_two hf
      have hg := gap_one (pt p (by simp)) (Or.inl hp)
      have hg2 := (pt q (by simp)).none hq
      subst hL
      show actR 6 _ _ = rB (closeB (backB _))
      rw [gone_snoc, hg, hg2]
      simp [actR, rB, topB]
      simp [rP, hq, closeL]
    · refine gen ⟨[2], 0, 4, false, 6⟩ 4 false rfl rfl rfl rfl rfl (by rw [f1, u1 2 (by omega)]; rfl) fun hf L hL => ?_
      rw [f1] at hf
      obtain ⟨C, q, rfl, hq⟩ := ends_one hf
      have hg2 := (pt q (by simp)).none hq
      subst hL
      show actR 7 _ _ = rB (backB _)
      rw [back_snoc, hg2]
      simp [actR, rB, topB]
      simp [rP, hq, closeL]
    · refine gen ⟨[2], 0, 3, false, 6⟩ 3 false rfl rfl rfl rfl rfl (by rw [f1, u1 2 (by omega)]; rfl) fun hf L hL => ?_
      rw [f1] at hf
      obtain ⟨C, q, rfl, hq⟩ := ends_one hf
      have hg2 := (pt q (by simp)).none hq
      subst hL
      show actR 8 _ _ = rB (backB _)
      rw [back_snoc, hg2]
      simp [actR, rB, topB]
      simp [rP, hq, closeL]
    · refine gen ⟨[], 0, 5, true, 7⟩ 5 true rfl rfl rfl rfl rfl (by rw [f0]; rfl) fun _ L hL => ?_
      subst hL
      simp [actR, actB, openB, rB, rP]
    · refine gen ⟨[], 0, 6, true, 8⟩ 6 true rfl rfl rfl rfl rfl (by rw [f0]; rfl) fun _ L hL => ?_
      subst hL
      simp [actR, actB, openB, rB, rP]
    · refine gen ⟨[3], 0, 7, false, 6⟩ 7 false rfl rfl rfl rfl rfl (by rw [f1, u1 3 (by omega)]; rfl) fun hf L hL => ?_
      rw [f1] at hf
      obtain ⟨C, q, rfl, hq⟩ := ends_one hf
      subst hL
      show actR 11 _ _ = rB (backB _)
      rw [back_snoc]
      simp [actR, rB, topB]
      simp [rP, hq]
    · refine gen ⟨[3], 0, 8, false, 6⟩ 8 false rfl rfl rfl rfl rfl (by rw [f1, u1 3 (by omega)]; rfl) fun hf L hL => ?_
      rw [f1] at hf
      obtain ⟨C, q, rfl, hq⟩ := ends_one hf
      subst hL
      show actR 12 _ _ = rB (backB _)
      rw [back_snoc]
      simp [actR, rB, topB]
      simp [rP, hq]
    · refine gen ⟨[], 3, 9, false, 9⟩ 9 false rfl rfl rfl rfl rfl (by
        have : fitsB ⟨[], 3, 9, false, 9⟩ P = decide (0 ≤ topmost 3 P) := by unfold fitsB; simp [ends_nil]
        rw [this, ← any_top hk1]; rfl) fun hf L hL => ?_
      have hf : 0 ≤ topmost 3 P := by unfold fitsB at hf; simpa [ends_nil] using hf
      obtain ⟨j, hj⟩ := Int.eq_ofNat_of_zero_le hf
      have ht := topmost_map hk1
      obtain ⟨C, q, D, rfl, hC, hq3, hD⟩ := topmost_at hj
      subst hL
      show actR 13 _ _ = rB (leaveB _)
      rw [leave_mid _ _ _ _ hq3 hD]
      have e1 : actR 13 L0.length ⟨L0 ++ [⟨9, 0, 0⟩], (C ++ q :: D).map rP⟩ = ⟨L0 ++ [⟨9, 0, 0⟩], moreG L0.length ((C ++ q :: D).map rP) (topmost 2 ((C ++ q :: D).map rP)).toNat⟩ := rfl
      have e2 : (if (9 : Nat) = 0 then L0 else L0 ++ [(⟨9, 0, 0⟩ : Xi)]) = L0 ++ [⟨9, 0, 0⟩] := rfl
      rw [e2, e1, ht, hj]
      have e3 : ((j : Int)).toNat = C.length := by rw [hC]; simp
      rw [e3, more_map _ _ _ _ hq3]
      simp [rB]
    · refine gen ⟨[], 0, 0, true, 10⟩ 0 true rfl rfl rfl rfl rfl (by rw [f0]; rfl) fun _ L hL => ?_
      subst hL
      simp [actR, actB, openB, rB, rP]
    · refine gen ⟨[4], 0, 10, true, 11⟩ 10 true rfl rfl rfl rfl rfl (by rw [f1, u1 4 (by omega)]; rfl) fun hf L hL => ?_
      subst hL
      simp [actR, actB, openB, rB, rP]
    · refine gen ⟨[4, 5], 0, 3, false, 12⟩ 3 false rfl rfl rfl rfl rfl (by rw [f2, ends_up2 hk1 (by omega) (by omega)]; rfl) fun hf L hL => ?_
      rw [f2] at hf
      obtain ⟨C, p, q, rfl, hp, hq⟩ := ends_two hf
      have hg := gap_one (pt q (by simp)) (Or.inr hq)
      subst hL
      show actR 16 _ _ = rB (branchB _)
      rw [branch_snoc, hg]
      simp [actR, rB, topB]
      simp [rP, hp]
    · refine gen ⟨[4], 0, 11, false, 2⟩ 11 false rfl rfl rfl rfl rfl (by rw [f1, u1 4 (by omega)]; rfl) fun hf L hL => ?_
      rw [f1] at hf
      obtain ⟨C, q, rfl, hq⟩ := ends_one hf
      subst hL
      show actR 17 _ _ = rB (closeB _)
      rw [close_snoc]
      simp [actR, rB, topB]
      simp [rP, hq]
end Go.Proofs.Ytnclfopdgilgaaa

namespace Go.Proofs.Ytnclfopdgilgaaa
open Go.RowKit
set_option linter.unusedVariables false

abbrev TRB : TypeId := 30
abbrev TRP : TypeId := 75
theorem take_at {α : Type} {l : List α} {m : Nat} {x : α} (h : l[m]? = some x) : l = l.take m ++ x :: l.drop (m + 1) := by
  obtain ⟨hm, rfl⟩ := List.getElem?_eq_some_iff.1 h
  rw [← List.drop_eq_getElem_cons hm, List.take_append_drop]
set_option maxHeartbeats 2000000 in
theorem upon_calls {w : World} {p : Nat} {vc vo : Value} {O : List (Pk × Value)} {L : List Xi} (h : Bv TRB TRP w p vc vo O L) (hd : O.length ≤ 1000) (kind under : Nat) (hk : kind ≤ 10) (hu : under ≤ 10) :
    Calls Try.prog 56 #[Pt p, .int .i64 (kind : Int), .int .i64 (under : Int)] w fun e w' => e = .returned (.bool (upR kind under (O.map Prod.fst))) ∧ w = w' := by
  obtain ⟨A, cap, hvo, hA0, hA1, hA2⟩ := h.open_slice
  have k1 := h.c1
  rw [hvo] at k1
  obtain ⟨n, hn⟩ : ∃ n, n = O.length := ⟨_, rfl⟩
  rw [← hn] at k1
  have hnI : (n : Int) ≤ 1000 := by omega
  have huI : (under : Int) ≤ 10 := by omega
  by_cases hs : under < n
  · obtain ⟨m, hm⟩ : ∃ m, m = n - 1 - under := ⟨_, rfl⟩
    have hmI : (n : Int) - 1 - (under : Int) = (m : Int) := by omega
    have hmn : (m : Int) < (n : Int) := by omega
    obtain ⟨q, hq⟩ : ∃ q, O[m]? = some q := ⟨_, List.getElem?_eq_getElem (by omega)⟩
    have hB := h
    rw [take_at hq] at hB
    obtain ⟨g, cap2, e, _, c0, _⟩ := hB.part
    have hml : (O.take m).length = m := by rw [List.length_take]; omega
    rw [hml] at c0
    rw [← take_at hq, ← hn] at e
    rw [hvo, ← hn] at e
    simp only [Value.slice.injEq] at e
    obtain ⟨rfl, _, rfl⟩ := e
    obtain ⟨r, hr⟩ : ∃ r, r = ((q.1.k : Int) == (kind : Int)) := ⟨_, rfl⟩
    have hup : upR kind under (O.map Prod.fst) = r := by
      unfold upR
      rw [List.length_map, ← hn, decide_eq_true hs, Bool.true_and, List.getD_eq_getElem?_getD, ← hm, List.getElem?_map, hq, hr]
      simp only [Option.map_some, Option.getD_some]
      show decide (q.1.k = kind) = ((q.1.k : Int) == (kind : Int))
      rw [Bool.eq_iff_iff, decide_eq_true_eq, beq_iff_eq]
      omega
    obtain ⟨qk, hqk⟩ : ∃ qk, qk = q.1.k := ⟨_, rfl⟩
    rw [← hqk] at c0 hr
    have HR := Lib.hid (And.intro hup hr)
    have hr2 := hr.symm
    clear h hB hn hm hs hq hml hvo hA0 hup hr hqk hd
    go_enter Try.func56, Try.ntmps56
    go_wp2_with fail
    go_ret
    exact ⟨by rw [HR.out.1, HR.out.2]; first | done | rfl | simp, rfl⟩
  · have hmI : (n : Int) - 1 - (under : Int) < 0 := by omega
    have HR := Lib.hid (show upR kind under (O.map Prod.fst) = false by unfold upR; rw [List.length_map, ← hn, decide_eq_false hs, Bool.false_and])
    clear h hn hs hvo hA0 hd
    go_enter Try.func56, Try.ntmps56
    go_wp2_with fail
    go_ret
    exact ⟨by rw [HR.out]; rfl, rfl⟩
end Go.Proofs.Ytnclfopdgilgaaa

namespace Go.Proofs.Ytnclfopdgilgaaa
open Go.RowKit
set_option linter.unusedVariables false

theorem part17 {n : Int} (h1 : 1 ≤ n) (h2 : n ≤ 17) : n = 1 ∨ n = 2 ∨ n = 3 ∨ n = 4 ∨ n = 5 ∨ n = 6 ∨ n = 7 ∨ n = 8 ∨ n = 9 ∨ n = 10 ∨ n = 11 ∨ n = 12 ∨ n = 13 ∨ n = 14 ∨ n = 15 ∨ n = 16 ∨ n = 17 := by omega
set_option maxHeartbeats 4000000 in
theorem lays_calls {w : World} {n : Int} (h1 : 1 ≤ n) (h2 : n ≤ 17) : Calls Try.prog 31 #[.int .i64 n] w fun e w' => e = .returned (.int .u8 (laysR n : Int)) ∧ w = w' := by
  rcases part17 h1 h2 with rfl | rfl | rfl | rfl | rfl | rfl | rfl | rfl | rfl | rfl | rfl | rfl | rfl | rfl | rfl | rfl | rfl
  all_goals
    clear h1 h2
    go_enter Try.func31, Try.ntmps31
    go_wp2_with fail
    go_ret
    exact ⟨rfl, rfl⟩
set_option maxHeartbeats 4000000 in
theorem opens_calls {w : World} {n : Int} (h1 : 1 ≤ n) (h2 : n ≤ 17) : Calls Try.prog 32 #[.int .i64 n] w fun e w' => e = .returned (.bool (opensR n)) ∧ w = w' := by
  rcases part17 h1 h2 with rfl | rfl | rfl | rfl | rfl | rfl | rfl | rfl | rfl | rfl | rfl | rfl | rfl | rfl | rfl | rfl | rfl
  all_goals
    clear h1 h2
    go_enter Try.func32, Try.ntmps32
    go_wp2_with fail
    go_ret
    exact ⟨rfl, rfl⟩
theorem Bv.kinds {tB tP : TypeId} {w : World} {p : Nat} {vc vo : Value} {O : List (Pk × Value)} {L : List Xi} (h : Bv tB tP w p vc vo O L) : ∃ A cap, vo = .slice A O.length cap ∧ O.length ≤ cap ∧ cap ≤ 9223372036854775807 ∧ ∀ i q, O[i]? = some q → ∃ g, A = some ⟨g, 0, none⟩ ∧ w.cell? ⟨g, i * 3, none⟩ = some (.int .i64 (q.1.k : Int)) := by
  obtain ⟨A, cap, hvo, hA0, hA1, hA2⟩ := h.open_slice
  refine ⟨A, cap, hvo, hA1, hA2, fun i q hq => ?_⟩
  have hB := h
  rw [take_at hq] at hB
  obtain ⟨g, cap2, e, _, c0, _⟩ := hB.part
  have hi := (List.getElem?_eq_some_iff.1 hq).1
  have hml : (O.take i).length = i := by rw [List.length_take]; omega
  rw [hml] at c0
  rw [hvo] at e
  simp only [Value.slice.injEq] at e
  exact ⟨g, e.1, c0⟩
set_option maxHeartbeats 4000000 in
theorem asks13_calls {w : World} {p : Nat} {vc vo : Value} {O : List (Pk × Value)} {L : List Xi} (h : Bv TRB TRP w p vc vo O L) (hd : O.length ≤ 1000) :
    Calls Try.prog 30 #[Pt p, .int .i64 13] w fun e w' => e = .returned (.bool (asksR 13 (O.map Prod.fst))) ∧ w = w' := by
  obtain ⟨A, cap, hvo, hA1, hA2, hk⟩ := h.kinds
  have k1 := h.c1
  rw [hvo] at k1
  obtain ⟨n, hn⟩ : ∃ n, n = O.length := ⟨_, rfl⟩
  rw [← hn] at k1 hA1
  have hnI : (n : Int) ≤ 1000 := by omega
  have ea : asksR 13 (O.map Prod.fst) = (O.map Prod.fst).any fun q => decide (q.k = 2) := rfl
  rw [ea]
  obtain ⟨R, hR⟩ : ∃ R, R = (O.map Prod.fst).any fun q => decide (q.k = 2) := ⟨_, rfl⟩
  rw [← hR]
  have HRR := Lib.hid hR
  clear hR
  have HN := Lib.hid (And.intro hn hk)
  have HK1 := Lib.hid k1
  clear h hd hvo hk hn ea
  go_enter Try.func30, Try.ntmps30
  go_wp2_with fail
  go_loopg [5] n (fun g z wr => ∃ i : Nat, z = .int .i64 (i : Int) ∧ i + g = n ∧ RowKit.Hid (w = wr ∧ ∀ j q, j < i → O[j]? = some q → q.1.k ≠ 2))
  case atStart => exact ⟨0, rfl, by omega, Lib.hid ⟨rfl, fun j q hj => by omega⟩⟩
  case round =>
    obtain ⟨i, rfl, hig, hi⟩ := hrel
    obtain rfl := hi.out.1
    by_cases hlt : i < n
    · have hltI : (i : Int) < (n : Int) := by omega
      obtain ⟨q, hq⟩ : ∃ q, O[i]? = some q := ⟨_, List.getElem?_eq_getElem (by have := HN.out.1; omega)⟩
      obtain ⟨g, rfl, hc⟩ := HN.out.2 i q hq
      have hno := hi.out.2
      obtain ⟨qk, hqk⟩ : ∃ qk, qk = q.1.k := ⟨_, rfl⟩
      rw [← hqk] at hc
      have HI := Lib.hid (And.intro hig (And.intro hq (And.intro hqk hno)))
      clear hi hno hig hlt hq hqk
      by_cases e2 : qk = 2
      · have HR := Lib.hid (show (O.map Prod.fst).any (fun q => decide (q.k = 2)) = true by
          rw [List.any_eq_true]
          exact ⟨q.1, List.mem_map.2 ⟨q, List.mem_of_getElem? HI.out.2.1, rfl⟩, by rw [decide_eq_true_eq, ← HI.out.2.2.1]; exact e2⟩)
        subst e2
        go_wp2_with fail
        go_ret
        exact ⟨by rw [HRR.out, HR.out]; rfl, rfl⟩
      · have e3 : ((qk : Int) == 2) = false := by rw [beq_eq_false_iff_ne]; omega
        have E2 := Lib.hid e2
        clear e2
        go_wp2_with fail
        go_roundg (gk - 1)
        case measure => have := HI.out.1; omega
        case rel =>
          refine ⟨i + 1, by go_num, by have := HI.out.1; omega, Lib.hid ⟨rfl, fun j r hj hr => ?_⟩⟩
          by_cases hji : j < i
          · exact HI.out.2.2.2 j r hji hr
          · obtain rfl : j = i := by omega
            rw [HI.out.2.1] at hr
            obtain rfl := Option.some.inj hr
            rw [← HI.out.2.2.1]
            exact E2.out
    · have hltI : ¬ (i : Int) < (n : Int) := by omega
      have HR := Lib.hid (show (O.map Prod.fst).any (fun q => decide (q.k = 2)) = false by
        rw [List.any_eq_false]
        intro x hx
        obtain ⟨q, hq, rfl⟩ := List.mem_map.1 hx
        obtain ⟨j, hj, rfl⟩ := List.getElem_of_mem hq
        have := hi.out.2 j _ (by have := HN.out.1; omega) (List.getElem?_eq_getElem hj)
        simpa using this)
      clear hi hig hlt
      go_wp2_with fail
      go_ret
      exact ⟨by rw [HRR.out, HR.out]; rfl, rfl⟩
theorem upon_lit {w : World} {p : Nat} {vc vo : Value} {O : List (Pk × Value)} {L : List Xi} (h : Bv TRB TRP w p vc vo O L) (hd : O.length ≤ 1000) (kind under : Nat) (hk : kind ≤ 10) (hu : under ≤ 10) (x y : Int) (hx : (kind : Int) = x) (hy : (under : Int) = y) :
    Calls Try.prog 56 #[Pt p, .int .i64 x, .int .i64 y] w fun e w' => e = .returned (.bool (upR kind under (O.map Prod.fst))) ∧ w = w' := by
  subst hx hy
  exact upon_calls h hd kind under hk hu
set_option maxHeartbeats 8000000 in
theorem asks_calls {w : World} {p : Nat} {vc vo : Value} {O : List (Pk × Value)} {L : List Xi} (h : Bv TRB TRP w p vc vo O L) (hd : O.length ≤ 1000) {n : Int} (h1 : 1 ≤ n) (h2 : n ≤ 17) :
    Calls Try.prog 30 #[Pt p, .int .i64 n] w fun e w' => e = .returned (.bool (asksR n (O.map Prod.fst))) ∧ w = w' := by
  by_cases h13 : n = 13
  · subst h13; exact asks13_calls h hd
  obtain ⟨P, hP⟩ : ∃ P, P = O.map Prod.fst := ⟨_, rfl⟩
  have k0 := upon_lit h hd 0 0 (by decide) (by decide) 0 0 rfl rfl
  have k1 := upon_lit h hd 1 0 (by decide) (by decide) 1 0 rfl rfl
  have k2 := upon_lit h hd 2 0 (by decide) (by decide) 2 0 rfl rfl
  have k3 := upon_lit h hd 3 0 (by decide) (by decide) 3 0 rfl rfl
  have k4 := upon_lit h hd 4 0 (by decide) (by decide) 4 0 rfl rfl
  have k5 := upon_lit h hd 0 1 (by decide) (by decide) 0 1 rfl rfl
  have k6 := upon_lit h hd 3 1 (by decide) (by decide) 3 1 rfl rfl
  rw [← hP] at k0 k1 k2 k3 k4 k5 k6 ⊢
  have K0 := Lib.hid k0
  have K1 := Lib.hid k1
  have K2 := Lib.hid k2
  have K3 := Lib.hid k3
  have K4 := Lib.hid k4
  have K5 := Lib.hid k5
  have K6 := Lib.hid k6
  clear k0 k1 k2 k3 k4 k5 k6 h hd hP
  rcases part17 h1 h2 with rfl | rfl | rfl | rfl | rfl | rfl | rfl | rfl | rfl | rfl | rfl | rfl | rfl | rfl | rfl | rfl | rfl
  all_goals clear h1 h2
  case inr.inr.inr.inr.inr.inr.inr.inr.inr.inr.inr.inr.inl => exact absurd rfl h13
  all_goals clear h13
  case inr.inr.inr.inr.inr.inl =>
    have ea : asksR 6 P = (upR 1 0 P && upR 0 1 P) := rfl
    rw [ea]
    cases hu : upR 1 0 P with
    | false =>
      rw [hu] at K1
      clear hu
      go_enter Try.func30, Try.ntmps30
      go_wp2_with fail
      refine (K1.out).mono ?_
      rintro e w4 ⟨rfl, rfl⟩
      go_wp2_with fail
      go_ret
      exact ⟨rfl, rfl⟩
    | true =>
      rw [hu] at K1
      clear hu
      go_enter Try.func30, Try.ntmps30
      go_wp2_with fail
      refine (K1.out).mono ?_
      rintro e w4 ⟨rfl, rfl⟩
      go_wp2_with fail
      refine (K5.out).mono ?_
      rintro e w4 ⟨rfl, rfl⟩
      go_wp2_with fail
      go_ret
      exact ⟨by rw [Bool.true_and]; rfl, rfl⟩
  case inr.inr.inr.inr.inr.inr.inr.inr.inr.inr.inr.inr.inr.inr.inr.inl =>
    have ea : asksR 16 P = (upR 4 0 P && upR 3 1 P) := rfl
    rw [ea]
    cases hu : upR 4 0 P with
    | false =>
      rw [hu] at K4
      clear hu
      go_enter Try.func30, Try.ntmps30
      go_wp2_with fail
      refine (K4.out).mono ?_
      rintro e w4 ⟨rfl, rfl⟩
      go_wp2_with fail
      go_ret
      exact ⟨rfl, rfl⟩
    | true =>
      rw [hu] at K4
      clear hu
      go_enter Try.func30, Try.ntmps30
      go_wp2_with fail
      refine (K4.out).mono ?_
      rintro e w4 ⟨rfl, rfl⟩
      go_wp2_with fail
      refine (K6.out).mono ?_
      rintro e w4 ⟨rfl, rfl⟩
      go_wp2_with fail
      go_ret
      exact ⟨by rw [Bool.true_and]; rfl, rfl⟩
  all_goals
    go_enter Try.func30, Try.ntmps30
    go_wp2_with fail
    first
      | ((with_reducible refine (K0.out).mono ?_); rintro e w4 ⟨rfl, rfl⟩; go_wp2_with fail; go_ret; exact ⟨rfl, rfl⟩)
      | ((with_reducible refine (K1.out).mono ?_); rintro e w4 ⟨rfl, rfl⟩; go_wp2_with fail; go_ret; exact ⟨rfl, rfl⟩)
      | ((with_reducible refine (K2.out).mono ?_); rintro e w4 ⟨rfl, rfl⟩; go_wp2_with fail; go_ret; exact ⟨rfl, rfl⟩)
      | ((with_reducible refine (K3.out).mono ?_); rintro e w4 ⟨rfl, rfl⟩; go_wp2_with fail; go_ret; exact ⟨rfl, rfl⟩)
      | (go_ret; exact ⟨rfl, rfl⟩)
end Go.Proofs.Ytnclfopdgilgaaa

namespace Go.Proofs.Ytnclfopdgilgaaa
open Go.RowKit
set_option linter.unusedVariables false

/-- The slice type t has elements of the type e, of k cells and y bytes. -/
structure El (t e : TypeId) (k y : Nat) : Prop where
  und : Try.prog.underlying t = some (.slice e)
  inf : ∃ i z, Try.prog.info? e = some i ∧ i.zero = some z ∧ i.size = k ∧ i.bytes = y ∧ z.cells.size = k
  pos : 0 < k
  few : y ≤ 1000
theorem elX : El 27 35 3 24 := by
  obtain ⟨i, hi, hz0, hz1, hz2⟩ := info_parts infoIns
  exact ⟨Try.underlying27, ⟨i, _, hi, hz0, hz1, hz2, rfl⟩, by decide, by decide⟩
theorem infoRP : (Try.prog.info? TRP).map (fun i => (i.zero, i.size, i.bytes)) = some (some (.agg #[.int .i64 0, .int .i64 0, .slice none 0 0]), 3, 40) := by kernel_rfl
theorem elP : El 28 TRP 3 40 := by
  obtain ⟨i, hi, hz0, hz1, hz2⟩ := info_parts infoRP
  exact ⟨Try.underlying28, ⟨i, _, hi, hz0, hz1, hz2, rfl⟩, by decide, by decide⟩
theorem infoII : (Try.prog.info? 3).map (fun i => (i.zero, i.size, i.bytes)) = some (some (.int .i64 0), 1, 8) := by kernel_rfl
theorem elN : El 46 3 1 8 := by
  obtain ⟨i, hi, hz0, hz1, hz2⟩ := info_parts infoII
  exact ⟨Try.underlying46, ⟨i, _, hi, hz0, hz1, hz2, rfl⟩, by decide, by decide⟩
/-- v is a row of n elements in w' that was made since W; nothing older turned. -/
structure Grew (e : TypeId) (k : Nat) (W w' : World) (v : Value) (n : Nat) (xs : List Value) : Prop where
  m : Mod [] W w'
  row : w'.ownsRow 0 e k v n xs
  own : ∃ g, v.ownBlock = some g ∧ W.heap.size ≤ g
theorem Grew.far {e : TypeId} {k : Nat} {W a b : World} {v : Value} {n : Nat} {xs : List Value} (h : Grew e k W a v n xs) (m : Mod [] a b) : Grew e k W b v n xs := ⟨h.m.trans m, row_mod h.row m (by simp), h.own⟩
theorem lit_row (e : TypeId) (k : Nat) (W : World) : (W.alloc (.cells #[] e)).ownsRow 0 e k (.slice (some ⟨W.heap.size, 0, none⟩) 0 0) 0 [] := by
  have := World.ownsRow_lit (base := 0) (e := e) (size := k) W #[] 0 (Nat.zero_le _) (Nat.zero_le _) (by simp)
  simpa using this
section
variable {t e : TypeId} {k y : Nat}
theorem El.base (E : El t e k y) {W Y : World} (m : Mod [] W Y) {b : Nat} (hb : W.heap.size ≤ b) (hr : Y.ownsRow 0 e k (.slice (some ⟨b, 0, none⟩) 0 0) 0 []) {v : Value} {n : Nat} {xs : List Value} (h : W.ownsRow 0 e k v n xs) (hx : ∀ u ∈ xs, u.oneCell' = true) (hn : n ≤ 1000) (ty : TypeId) :
    ∃ A c w', (Builtin.append_ #[t, t] ty #[.slice (some ⟨b, 0, none⟩) 0 0, v]).run Try.prog Y = .ok (.slice A n c) w' ∧ Grew e k W w' (.slice A n c) n xs ∧ Mod [b] Y w' := by
  obtain ⟨i, z, hi, hz, hs, hby, hzs⟩ := E.inf
  have hm0 : maxLen = 9223372036854775807 := rfl
  have hY := row_mod h m (by simp)
  rcases hY.2 with ⟨rfl, h0⟩ | ⟨g, cap, cur, rfl, hrest⟩
  · subst h0
    have hxs : xs = [] := List.eq_nil_of_length_eq_zero (by rw [h.1]; simp)
    subst hxs
    exact ⟨_, _, Y, run_append_owned_none (P := Try.prog) (w := Y) 0 t ty e i k E.und hi _ _ _ hr, ⟨m, hr, b, rfl, hb⟩, Mod.refl _ _⟩
  · have hby2 : (0 + n) * y ≤ 140737488355328 := Nat.le_trans (Nat.mul_le_mul (show 0 + n ≤ 1000 by omega) E.few) (by decide)
    obtain ⟨v', w', h1, h2, h3, h4, h5⟩ := run_append_own_at (P := Try.prog) (w := Y) 0 t ty e i z k y E.und hi hz hs hby hzs E.pos _ _ _ hr ⟨g, 0, none⟩ n cap xs hY.1 (fun j u hj => World.ownsRow.cells hY rfl j u hj) hx (by omega) hby2 (Nat.zero_le _)
    rw [Nat.zero_add, List.nil_append] at h2
    have hm := Mod.of_grown (S := [b]) h3 (by simp [Value.ownBlock])
    have h2' := h2
    rcases h2.2 with ⟨e1, _⟩ | ⟨g', cp, cur', e1, _⟩
    · have := (h4.1 e1).1
      cases this
    · subst e1
      refine ⟨_, _, w', h1, ⟨m.then hm fun x hx => ?_, h2', g', rfl, ?_⟩, hm⟩
      · rw [List.mem_singleton.1 hx]; exact Or.inr hb
      · rcases h5 with e2 | e2
        · have : g' = b := by simpa [Value.ownBlock] using e2
          omega
        · have : g' = Y.heap.size := by simpa [Value.ownBlock] using e2
          have := m.size
          omega
theorem El.last (E : El t e k y) {W Y : World} {v : Value} {n : Nat} {xs : List Value} (h : Grew e k W Y v n xs) (hn : n ≤ 999) (ad : Addr) (cp : Nat) (ys : List Value) (hl : ys.length = k) (hc : ∀ j u, ys[j]? = some u → Y.cell? (ad.add j) = some u) (h1 : ∀ u ∈ ys, u.oneCell' = true) (ty : TypeId) :
    ∃ A c w', (Builtin.append_ #[t, t] ty #[v, .slice (some ad) 1 cp]).run Try.prog Y = .ok (.slice A (n + 1) c) w' ∧ Grew e k W w' (.slice A (n + 1) c) (n + 1) (xs ++ ys) := by
  obtain ⟨i, z, hi, hz, hs, hby, hzs⟩ := E.inf
  have hm0 : maxLen = 9223372036854775807 := rfl
  have hby2 : (n + 1) * y ≤ 140737488355328 := Nat.le_trans (Nat.mul_le_mul (show n + 1 ≤ 1000 by omega) E.few) (by decide)
  obtain ⟨v', w', h2, h3, h4, h5, h6⟩ := run_append_own_at (P := Try.prog) (w := Y) 0 t ty e i z k y E.und hi hz hs hby hzs E.pos _ _ _ h.row ad 1 cp ys (by omega) hc h1 (by omega) hby2 (Nat.zero_le _)
  have hm := Mod.of_grown (S := v.ownBlock.toList) h4 (by simp)
  obtain ⟨g0, hg0, hg1⟩ := h.own
  have h3' := h3
  rcases h3.2 with ⟨e1, h0⟩ | ⟨g', cp', cur', e1, _⟩
  · omega
  · subst e1
    refine ⟨_, _, w', h2, h.m.then hm fun x hx => ?_, h3', g', rfl, ?_⟩
    · have : x = g0 := by rw [hg0] at hx; simpa using hx
      exact Or.inr (by omega)
    · rcases h6 with e2 | e2
      · have : g' = g0 := by rw [hg0] at e2; simpa [Value.ownBlock] using e2
        omega
      · have : g' = Y.heap.size := by simpa [Value.ownBlock] using e2
        have := h.m.size
        omega
theorem new_cells (W : World) (cx : Array Value) (e : TypeId) : ∀ j u, cx.toList[j]? = some u → (W.alloc (.cells cx e)).cell? ((⟨W.heap.size, 0, none⟩ : Addr).add j) = some u := fun j u hj => by
  rw [WideShapes.add_plain, Nat.zero_add, World.cell?_alloc_new, ← hj]
  simp
/-- The three orders of 'append(append([]T{}, l...), x)' where the order is drawn. -/
theorem El.three (E : El t e k y) {W : World} {v : Value} {n : Nat} {xs : List Value} (h : W.ownsRow 0 e k v n xs) (hx : ∀ u ∈ xs, u.oneCell' = true) (hn : n ≤ 999) (cx : Array Value) (hl : cx.toList.length = k) (h1 : ∀ u ∈ cx.toList, u.oneCell' = true) (ty : TypeId) :
    (∃ A1 c1 w1 A2 c2 w2, (Builtin.append_ #[t, t] ty #[.slice (some ⟨W.heap.size, 0, none⟩) 0 0, v]).run Try.prog ((W.alloc (.cells #[] e)).drew) = .ok (.slice A1 n c1) w1 ∧ (Builtin.append_ #[t, t] ty #[.slice A1 n c1, .slice (some ⟨w1.heap.size, 0, none⟩) 1 1]).run Try.prog (w1.alloc (.cells cx e)) = .ok (.slice A2 (n + 1) c2) w2 ∧ Mod [] W w1 ∧ Grew e k W w2 (.slice A2 (n + 1) c2) (n + 1) (xs ++ cx.toList)) ∧
    (∃ A1 c1 w1 A2 c2 w2, (Builtin.append_ #[t, t] ty #[.slice (some ⟨W.heap.size, 0, none⟩) 0 0, v]).run Try.prog (((W.alloc (.cells #[] e)).alloc (.cells cx e)).drew) = .ok (.slice A1 n c1) w1 ∧ (Builtin.append_ #[t, t] ty #[.slice A1 n c1, .slice (some ⟨W.heap.size + 1, 0, none⟩) 1 1]).run Try.prog w1 = .ok (.slice A2 (n + 1) c2) w2 ∧ Mod [] W w1 ∧ Grew e k W w2 (.slice A2 (n + 1) c2) (n + 1) (xs ++ cx.toList)) ∧
    (∃ A1 c1 w1 A2 c2 w2, (Builtin.append_ #[t, t] ty #[.slice (some ⟨W.heap.size + 1, 0, none⟩) 0 0, v]).run Try.prog (((W.alloc (.cells cx e)).alloc (.cells #[] e)).drew) = .ok (.slice A1 n c1) w1 ∧ (Builtin.append_ #[t, t] ty #[.slice A1 n c1, .slice (some ⟨W.heap.size, 0, none⟩) 1 1]).run Try.prog w1 = .ok (.slice A2 (n + 1) c2) w2 ∧ Mod [] W w1 ∧ Grew e k W w2 (.slice A2 (n + 1) c2) (n + 1) (xs ++ cx.toList)) := by
  have al : ∀ (Y : World) (o : Obj), Mod [] Y (Y.alloc o) := fun Y o => (Mod.refl [] Y).alloc o
  have dr : ∀ Y : World, Mod [] Y Y.drew := fun Y => (Mod.refl [] Y).drew
  have sz : ∀ o : Obj, (W.alloc o).heap.size = W.heap.size + 1 := fun o => size_allocI W o
  refine ⟨?_, ?_, ?_⟩
  · obtain ⟨A1, c1, w1, e1, g1, _⟩ := E.base ((al W (.cells #[] e)).trans (dr _)) (Nat.le_refl _) (row_mod (lit_row e k W) (dr _) (by simp)) h hx (by omega) ty
    obtain ⟨A2, c2, w2, e2, g2⟩ := E.last (g1.far (al w1 (.cells cx e))) hn ⟨w1.heap.size, 0, none⟩ 1 cx.toList hl (new_cells w1 cx e) h1 ty
    exact ⟨A1, c1, w1, A2, c2, w2, e1, e2, g1.m, g2⟩
  · obtain ⟨A1, c1, w1, e1, g1, m1⟩ := E.base (((al W (.cells #[] e)).trans (al _ (.cells cx e))).trans (dr _)) (Nat.le_refl _) (row_mod (lit_row e k W) ((al _ (.cells cx e)).trans (dr _)) (by simp)) h hx (by omega) ty
    obtain ⟨A2, c2, w2, e2, g2⟩ := E.last g1 hn ⟨W.heap.size + 1, 0, none⟩ 1 cx.toList hl (fun j u hj => by
      have h := new_cells (W.alloc (.cells #[] e)) cx e j u hj
      rw [sz] at h
      refine m1.cell (a := ((W.alloc (.cells #[] e)).alloc (.cells cx e)).drew) ?_ h
      rw [WideShapes.add_plain]; simp) h1 ty
    exact ⟨A1, c1, w1, A2, c2, w2, e1, e2, g1.m, g2⟩
  · obtain ⟨A1, c1, w1, e1, g1, m1⟩ := E.base (((al W (.cells cx e)).trans (al _ (.cells #[] e))).trans (dr _)) (b := W.heap.size + 1) (by omega) (by
      have h := lit_row e k (W.alloc (.cells cx e))
      rw [sz] at h
      exact row_mod h (dr _) (by simp)) h hx (by omega) ty
    obtain ⟨A2, c2, w2, e2, g2⟩ := E.last g1 hn ⟨W.heap.size, 0, none⟩ 1 cx.toList hl (fun j u hj => by
      refine m1.cell (a := ((W.alloc (.cells cx e)).alloc (.cells #[] e)).drew) ?_ (((al _ (.cells #[] e)).trans (dr _)).cell (by simp) (new_cells W cx e j u hj))
      rw [WideShapes.add_plain]; simp) h1 ty
    exact ⟨A1, c1, w1, A2, c2, w2, e1, e2, g1.m, g2⟩
end
theorem flatsX_cells (L : List Xi) : ∀ u ∈ flatsX L, u.oneCell' = true := fun u hu => by
  obtain ⟨x, _, hx⟩ := List.mem_flatMap.1 hu
  simp [flatX] at hx
  rcases hx with rfl | rfl | rfl <;> rfl
section
variable {tB tP : TypeId} {w W : World} {p : Nat} {vc vo vc' vo' : Value} {O O' : List (Pk × Value)} {L L' : List Xi}
/-- A new row of instructions is stored. -/
theorem Bv.code_new (h : Bv tB tP w p vc vo O L) (m : Mod [] w W) (hr : Xr W 0 vc' L') (hf : ∃ g, vc'.ownBlock = some g ∧ w.heap.size ≤ g) :
    Bv tB tP (W.setCell ⟨p, 0, none⟩ vc') p vc' vo O L' ∧ Turn (Sof p vc vo O) (Sof p vc' vo O) w (W.setCell ⟨p, 0, none⟩ vc') := by
  obtain ⟨g, hg, hgl⟩ := hf
  obtain ⟨h1, h2⟩ := (h.far m).set0 hr (Or.inr fun g' hg' hx => by
    have : g' = g := Option.some.inj (hg'.symm.trans hg)
    have := h.lt g' hx
    omega)
  refine ⟨h1, (m.up (by simp)).trans (h2.up fun x hx => ?_), fun x hx => ?_⟩
  · rw [List.mem_singleton.1 hx]; exact mem_Sof.2 (Or.inl rfl)
  · rcases mem_Sof.1 hx with hx | hx | hx
    · exact Or.inl (mem_Sof.2 (Or.inl hx))
    · rw [hg] at hx
      have : x = g := (Option.some.inj hx).symm
      exact Or.inr (by omega)
    · exact Or.inl (mem_Sof.2 (Or.inr (Or.inr hx)))
/-- A new row of parts is stored, its gaps those that were there or others. -/
theorem Bv.open_new (h : Bv tB tP w p vc vo O L) (m : Mod [] w W) (hr : W.ownsRow 0 tP 3 vo' O'.length (flatO O')) (hf : ∃ g, vo'.ownBlock = some g ∧ w.heap.size ≤ g)
    (hg0 : ∀ q ∈ O', Gr W q.2 q.1.g) (hn : ∀ q ∈ O', vo'.ownBlock = q.2.ownBlock → q.2.ownBlock = none) (hgp : ∀ q ∈ O', q.2.ownBlock ≠ some p ∧ ∀ g, q.2.ownBlock = some g → vc.ownBlock ≠ some g ∧ vo.ownBlock ≠ some g) (hgg : O'.Pairwise fun a b => ∀ g, a.2.ownBlock = some g → b.2.ownBlock ≠ some g) :
    Bv tB tP (W.setCell ⟨p, 1, none⟩ vo') p vc vo' O' L ∧ Mod [p] w (W.setCell ⟨p, 1, none⟩ vo') := by
  obtain ⟨g, hg, hgl⟩ := hf
  obtain ⟨h1, h2⟩ := (h.far m).set1 hr hg0 (Or.inr fun g' hg' => by
    have e : g' = g := Option.some.inj (hg'.symm.trans hg)
    refine ⟨fun hx => ?_, fun q hq hx => ?_⟩
    · have := h.lt g' hx
      omega
    · have := hn q hq (hg'.trans hx.symm)
      rw [hx] at this
      cases this) hgp hgg
  exact ⟨h1, (m.up (by simp)).trans h2⟩
end
set_option maxHeartbeats 8000000 in
theorem rput_ok {w : World} {p : Nat} {vc vo : Value} {O : List (Pk × Value)} {L : List Xi} (h : Bv TRB TRP w p vc vo O L) (hl : L.length < 499) (x : Xi) :
    Calls Try.prog 14 #[Pt p, insV x] w fun e w' => e = .returned (.int .i64 0) ∧ ∃ vc', Bv TRB TRP w' p vc' vo O (L ++ [x]) ∧ Turn (Sof p vc vo O) (Sof p vc' vo O) w w' ∧ ∃ g, vc'.ownBlock = some g ∧ w.heap.size ≤ g := by
  obtain ⟨A0, cap0, hvc, _⟩ := h.code_slice
  obtain ⟨n, hn⟩ : ∃ n, n = L.length := ⟨_, rfl⟩
  rw [← hn] at hvc
  subst hvc
  obtain ⟨W, hW⟩ : ∃ W, W = w.alloc (.cells #[.int .u8 (x.op : Int), .int .i64 x.a, .int .i64 x.w] 35) := ⟨_, rfl⟩
  have mW : Mod [] w W := by rw [hW]; exact (Mod.refl [] w).alloc _
  have cW := fun j u (hj : (flatsX [x])[j]? = some u) => (by rw [hW]; exact flat_new w x _ j u hj : W.cell? ((⟨w.heap.size, 0, none⟩ : Addr).add j) = some u)
  have x0 : W.cell? ⟨w.heap.size, 0, none⟩ = some (.int .u8 (x.op : Int)) := by have := cW 0 _ rfl; rwa [WideShapes.add_plain] at this
  have x1 : W.cell? ⟨w.heap.size, 1, none⟩ = some (.int .i64 x.a) := by have := cW 1 _ rfl; rwa [WideShapes.add_plain] at this
  have x2 : W.cell? ⟨w.heap.size, 2, none⟩ = some (.int .i64 x.w) := by have := cW 2 _ rfl; rwa [WideShapes.add_plain] at this
  have K := h.far mW
  have hrow : W.ownsRow 0 35 3 (.slice A0 n cap0) n (flatsX L) := by have := K.code; unfold Xr at this; rw [← hn] at this; exact this
  obtain ⟨⟨A1, c1, w1, A2, c2, w2, a1, a2, ma, ga⟩, ⟨B1, d1, u1, B2, d2, u2, b1, b2, mb, gb⟩, ⟨C1, e1, v1, C2, e2, v2, k1, k2, mc, gc⟩⟩ :=
    elX.three hrow (flatsX_cells L) (by omega) #[.int .u8 (x.op : Int), .int .i64 x.a, .int .i64 x.w] rfl (by simp; exact ⟨rfl, rfl, rfl⟩) 27
  have fin : ∀ {A : Option Addr} {c : Nat} {Y : World}, Grew 35 3 W Y (.slice A (n + 1) c) (n + 1) (flatsX L ++ #[.int .u8 (x.op : Int), .int .i64 x.a, .int .i64 x.w].toList) →
      Y.cell? ⟨p, 0, none⟩ = some (.slice A0 n cap0) ∧ Y.frozen? ⟨p, 0, none⟩ = false ∧ RowKit.Hid (Bv TRB TRP (Y.setCell ⟨p, 0, none⟩ (.slice A (n + 1) c)) p (.slice A (n + 1) c) vo O (L ++ [x]) ∧ Turn (Sof p (.slice A0 n cap0) vo O) (Sof p (.slice A (n + 1) c) vo O) w (Y.setCell ⟨p, 0, none⟩ (.slice A (n + 1) c)) ∧ ∃ g, (Value.slice A (n + 1) c).ownBlock = some g ∧ w.heap.size ≤ g) := fun {A c Y} g => by
    have KY := K.far g.m
    have hr : Xr Y 0 (.slice A (n + 1) c) (L ++ [x]) := by
      unfold Xr
      rw [flatsX_app, List.length_append, ← hn]
      exact g.row
    have hown : ∃ g, (Value.slice A (n + 1) c).ownBlock = some g ∧ w.heap.size ≤ g := by
      obtain ⟨b, hb, hl⟩ := g.own
      exact ⟨b, hb, Nat.le_trans mW.size hl⟩
    obtain ⟨r1, r2⟩ := h.code_new (mW.trans g.m) hr hown
    exact ⟨KY.c0, KY.f 0, Lib.hid ⟨r1, r2, hown⟩⟩
  obtain ⟨fa0, faf, FA⟩ := fin ga
  obtain ⟨fb0, fbf, FB⟩ := fin gb
  obtain ⟨fc0, fcf, FC⟩ := fin gc
  have kq : ∀ Y, Mod [] W Y → Y.cell? ⟨p, 0, none⟩ = some (.slice A0 n cap0) ∧ Y.cell? ⟨w.heap.size, 0, none⟩ = some (.int .u8 (x.op : Int)) ∧ Y.cell? ⟨w.heap.size, 1, none⟩ = some (.int .i64 x.a) ∧ Y.cell? ⟨w.heap.size, 2, none⟩ = some (.int .i64 x.w) := fun Y m =>
    ⟨(K.far m).c0, m.cell (by simp) x0, m.cell (by simp) x1, m.cell (by simp) x2⟩
  have al : ∀ (Y : World) (o : Obj), Mod [] Y (Y.alloc o) := fun Y o => (Mod.refl [] Y).alloc o
  obtain ⟨q0, _, _, _⟩ := kq W (Mod.refl _ _)
  obtain ⟨q1, q2, q3, q4⟩ := kq _ (al W (.cells #[] 35))
  obtain ⟨r1, r2, r3, r4⟩ := kq _ (al W (.cells #[.int .u8 (x.op : Int), .int .i64 x.a, .int .i64 x.w] 35))
  obtain ⟨s1, s2, s3, s4⟩ := kq _ ((al W (.cells #[] 35)).trans (al _ (.cells #[.int .u8 (x.op : Int), .int .i64 x.a, .int .i64 x.w] 35)))
  obtain ⟨t1, t2, t3, t4⟩ := kq _ ((al W (.cells #[.int .u8 (x.op : Int), .int .i64 x.a, .int .i64 x.w] 35)).trans (al _ (.cells #[] 35)))
  obtain ⟨y1, y2, y3, y4⟩ := kq w1 ma
  have hl1 : ¬ (499 : Int) ≤ (n : Int) := by omega
  have sz : ∀ o : Obj, (W.alloc o).heap.size = W.heap.size + 1 := fun o => size_allocI W o
  have HH := Lib.hid (And.intro h (And.intro hn mW))
  clear h K hrow ga gb gc ma mb mc fin kq al cW hl hn mW
  replace a1 : (appIns 27 _).run Try.prog _ = .ok (.slice A1 n c1) w1 := a1
  replace a2 : (appIns 27 _).run Try.prog _ = .ok (.slice A2 (n + 1) c2) w2 := a2
  replace b1 : (appIns 27 _).run Try.prog _ = .ok (.slice B1 n d1) u1 := b1
  replace b2 : (appIns 27 _).run Try.prog _ = .ok (.slice B2 (n + 1) d2) u2 := b2
  replace k1 : (appIns 27 _).run Try.prog _ = .ok (.slice C1 n e1) v1 := k1
  replace k2 : (appIns 27 _).run Try.prog _ = .ok (.slice C2 (n + 1) e2) v2 := k2
  have q0' : (w.alloc (.cells #[.int .u8 (x.op : Int), .int .i64 x.a, .int .i64 x.w] 35)).cell? ⟨p, 0, none⟩ = some (.slice A0 n cap0) := by rw [← hW]; exact q0
  go_enter Try.func14, Try.ntmps14
  go_upto_region 3 with fail
  rw [← hW]
  clear hW q0'
  go_region
  all_goals
    clear a1 a2 b1 b2 k1 k2 q0 q1 q2 q3 q4 r1 r2 r3 r4 s1 s2 s3 s4 t1 t2 t3 t4 y1 y2 y3 y4 x0 x1 x2 fa0 faf fb0 fbf fc0 fcf
    go_wp2_with fail
    go_ret
    first
      | exact ⟨rfl, _, FA.out.1, FA.out.2.1, FA.out.2.2⟩
      | exact ⟨rfl, _, FB.out.1, FB.out.2.1, FB.out.2.2⟩
      | exact ⟨rfl, _, FC.out.1, FC.out.2.1, FC.out.2.2⟩
end Go.Proofs.Ytnclfopdgilgaaa

namespace Go.Proofs.Ytnclfopdgilgaaa
open Go.RowKit
set_option linter.unusedVariables false

theorem rput_full {w : World} {p : Nat} {vc vo : Value} {O : List (Pk × Value)} {L : List Xi} (h : Bv TRB TRP w p vc vo O L) (hl : 499 ≤ L.length) (x : Xi) :
    Calls Try.prog 14 #[Pt p, insV x] w fun e w' => e = .returned (.int .i64 (-8)) ∧ Mod [] w w' := by
  obtain ⟨A0, cap0, hvc, _⟩ := h.code_slice
  obtain ⟨n, hn⟩ : ∃ n, n = L.length := ⟨_, rfl⟩
  rw [← hn] at hvc
  subst hvc
  have mW := (Mod.refl [] w).alloc (.cells #[.int .u8 (x.op : Int), .int .i64 x.a, .int .i64 x.w] 35)
  have k0 := (h.far mW).c0
  have hl1 : (499 : Int) ≤ (n : Int) := by omega
  clear h hl hn
  go_enter Try.func14, Try.ntmps14
  go_wp2_with fail
  go_ret
  exact ⟨rfl, mW⟩
/-- An append of parts of the document's: a name, so that the walk lays nothing open. -/
def appRP (ty : TypeId) (xs : Array Value) : Sem Value := Builtin.append_ #[28, 28] ty xs
@[go_sem ↓ high] theorem builtin_appRP (ty : TypeId) (cs : Array Bool) (xs : Array Value) : builtin .append #[28, 28] ty cs xs = (do pure (.value (← appRP ty xs))) := rfl
set_option maxHeartbeats 8000000 in
theorem rpush_calls {w : World} {p : Nat} {vc vo : Value} {O : List (Pk × Value)} {L : List Xi} (h : Bv TRB TRP w p vc vo O L) (hd : O.length ≤ 998) (q : Pk) (v : Value) (hv : Gr w v q.g) (hs : ∀ g, v.ownBlock = some g → g ∉ Sof p vc vo O) :
    Calls Try.prog 33 #[Pt p, .agg #[.int .i64 (q.k : Int), .int .i64 (q.s : Int), v]] w fun e w' => (∃ r, e = .returned r) ∧ ∃ vo', Bv TRB TRP w' p vc vo' (O ++ [(q, v)]) L ∧ Mod [p] w w' ∧ ∃ g, vo'.ownBlock = some g ∧ w.heap.size ≤ g := by
  obtain ⟨A0, cap0, hvo, _⟩ := h.open_slice
  obtain ⟨A3, c3, hv3⟩ := hv.slice
  obtain ⟨gl, hgl⟩ : ∃ gl, gl = q.g.length := ⟨_, rfl⟩
  rw [← hgl] at hv3
  subst hv3
  obtain ⟨n, hn⟩ : ∃ n, n = O.length := ⟨_, rfl⟩
  rw [← hn] at hvo
  subst hvo
  obtain ⟨W, hW⟩ : ∃ W, W = w.alloc (.cells #[.int .i64 (q.k : Int), .int .i64 (q.s : Int), .slice A3 gl c3] TRP) := ⟨_, rfl⟩
  have mW : Mod [] w W := by rw [hW]; exact (Mod.refl [] w).alloc _
  have cW := fun j u (hj : (flatO [(q, Value.slice A3 gl c3)])[j]? = some u) => (by rw [hW]; exact part_new w (q, .slice A3 gl c3) TRP j u hj : W.cell? ((⟨w.heap.size, 0, none⟩ : Addr).add j) = some u)
  have x0 : W.cell? ⟨w.heap.size, 0, none⟩ = some (.int .i64 (q.k : Int)) := by have := cW 0 _ rfl; rwa [WideShapes.add_plain] at this
  have x1 : W.cell? ⟨w.heap.size, 1, none⟩ = some (.int .i64 (q.s : Int)) := by have := cW 1 _ rfl; rwa [WideShapes.add_plain] at this
  have x2 : W.cell? ⟨w.heap.size, 2, none⟩ = some (.slice A3 gl c3) := by have := cW 2 _ rfl; rwa [WideShapes.add_plain] at this
  have K := h.far mW
  have hrow : W.ownsRow 0 TRP 3 (.slice A0 n cap0) n (flatO O) := by have := K.row; rw [← hn] at this; exact this
  have hOc : ∀ u ∈ flatO O, u.oneCell' = true := flatO_cells fun x hx => (h.gaps x hx).one
  obtain ⟨⟨A1, c1, w1, A2, c2, w2, a1, a2, ma, ga⟩, ⟨B1, d1, u1, B2, d2, u2, b1, b2, mb, gb⟩, ⟨C1, e1, v1, C2, e2, v2, k1, k2, mc, gc⟩⟩ :=
    elP.three hrow hOc (by omega) #[.int .i64 (q.k : Int), .int .i64 (q.s : Int), .slice A3 gl c3] rfl (by simp; exact ⟨rfl, rfl, rfl⟩) 28
  have fin : ∀ {A : Option Addr} {c : Nat} {Y : World}, Grew TRP 3 W Y (.slice A (n + 1) c) (n + 1) (flatO O ++ #[.int .i64 (q.k : Int), .int .i64 (q.s : Int), .slice A3 gl c3].toList) →
      Y.cell? ⟨p, 1, none⟩ = some (.slice A0 n cap0) ∧ Y.frozen? ⟨p, 1, none⟩ = false ∧ RowKit.Hid (Bv TRB TRP (Y.setCell ⟨p, 1, none⟩ (.slice A (n + 1) c)) p vc (.slice A (n + 1) c) (O ++ [(q, Value.slice A3 gl c3)]) L ∧ Mod [p] w (Y.setCell ⟨p, 1, none⟩ (.slice A (n + 1) c)) ∧ ∃ g, (Value.slice A (n + 1) c).ownBlock = some g ∧ w.heap.size ≤ g) := fun {A c Y} g => by
    have KY := K.far g.m
    have hr : Y.ownsRow 0 TRP 3 (.slice A (n + 1) c) (O ++ [(q, Value.slice A3 gl c3)]).length (flatO (O ++ [(q, Value.slice A3 gl c3)])) := by
      rw [flatO_app, List.length_append, ← hn]
      exact g.row
    have hown : ∃ g, (Value.slice A (n + 1) c).ownBlock = some g ∧ w.heap.size ≤ g := by
      obtain ⟨b, hb, hl⟩ := g.own
      exact ⟨b, hb, Nat.le_trans mW.size hl⟩
    have mem : ∀ x ∈ O ++ [(q, Value.slice A3 gl c3)], x = (q, Value.slice A3 gl c3) ∨ x ∈ O := fun x hx => by
      rcases List.mem_append.1 hx with hx | hx
      · exact Or.inr hx
      · exact Or.inl (List.mem_singleton.1 hx)
    have mY := mW.trans g.m
    have gl' : ∀ x ∈ O ++ [(q, Value.slice A3 gl c3)], ∀ g, x.2.ownBlock = some g → g < w.heap.size := fun x hx => by
      rcases mem x hx with rfl | hx
      · exact fun g hg => (World.ownsRow.lt hv g hg).2
      · exact h.lg x hx
    obtain ⟨r1, r2⟩ := h.open_new mY hr hown (fun x hx => by
        rcases mem x hx with rfl | hx
        · exact row_mod hv mY (by simp)
        · exact row_mod (h.gaps x hx) mY (by simp)) (fun x hx e => by
        obtain ⟨b, hb, hl⟩ := hown
        rw [hb] at e
        have := gl' x hx b e.symm
        omega) (fun x hx => by
        rcases mem x hx with rfl | hx
        · exact ⟨fun e => hs p e (mem_Sof.2 (Or.inl rfl)), fun g hg => ⟨fun e => hs g hg (mem_Sof.2 (Or.inr (Or.inl e))), fun e => hs g hg (mem_Sof.2 (Or.inr (Or.inr (Or.inl e))))⟩⟩
        · exact h.gp x hx) (by
        rw [List.pairwise_append]
        refine ⟨h.gg, by simp, fun a ha b hb g hg hg2 => ?_⟩
        obtain rfl := List.mem_singleton.1 hb
        exact hs g hg2 (mem_Sof.2 (Or.inr (Or.inr (Or.inr ⟨a, ha, hg⟩)))))
    exact ⟨KY.c1, KY.f 1, Lib.hid ⟨r1, r2, hown⟩⟩
  obtain ⟨fa0, faf, FA⟩ := fin ga
  obtain ⟨fb0, fbf, FB⟩ := fin gb
  obtain ⟨fc0, fcf, FC⟩ := fin gc
  have kq : ∀ Y, Mod [] W Y → Y.cell? ⟨p, 1, none⟩ = some (.slice A0 n cap0) ∧ Y.cell? ⟨w.heap.size, 0, none⟩ = some (.int .i64 (q.k : Int)) ∧ Y.cell? ⟨w.heap.size, 1, none⟩ = some (.int .i64 (q.s : Int)) ∧ Y.cell? ⟨w.heap.size, 2, none⟩ = some (.slice A3 gl c3) := fun Y m =>
    ⟨(K.far m).c1, m.cell (by simp) x0, m.cell (by simp) x1, m.cell (by simp) x2⟩
  have al : ∀ (Y : World) (o : Obj), Mod [] Y (Y.alloc o) := fun Y o => (Mod.refl [] Y).alloc o
  obtain ⟨q0, _, _, _⟩ := kq W (Mod.refl _ _)
  obtain ⟨q1, q2, q3, q4⟩ := kq _ (al W (.cells #[] TRP))
  obtain ⟨r1, r2, r3, r4⟩ := kq _ (al W (.cells #[.int .i64 (q.k : Int), .int .i64 (q.s : Int), .slice A3 gl c3] TRP))
  obtain ⟨s1, s2, s3, s4⟩ := kq _ ((al W (.cells #[] TRP)).trans (al _ (.cells #[.int .i64 (q.k : Int), .int .i64 (q.s : Int), .slice A3 gl c3] TRP)))
  obtain ⟨t1, t2, t3, t4⟩ := kq _ ((al W (.cells #[.int .i64 (q.k : Int), .int .i64 (q.s : Int), .slice A3 gl c3] TRP)).trans (al _ (.cells #[] TRP)))
  obtain ⟨y1, y2, y3, y4⟩ := kq w1 ma
  have sz : ∀ o : Obj, (W.alloc o).heap.size = W.heap.size + 1 := fun o => size_allocI W o
  clear h K hrow ga gb gc ma mb mc fin kq al cW hd hn mW hOc hv hs hgl
  replace a1 : (appRP 28 _).run Try.prog _ = .ok (.slice A1 n c1) w1 := a1
  replace a2 : (appRP 28 _).run Try.prog _ = .ok (.slice A2 (n + 1) c2) w2 := a2
  replace b1 : (appRP 28 _).run Try.prog _ = .ok (.slice B1 n d1) u1 := b1
  replace b2 : (appRP 28 _).run Try.prog _ = .ok (.slice B2 (n + 1) d2) u2 := b2
  replace k1 : (appRP 28 _).run Try.prog _ = .ok (.slice C1 n e1) v1 := k1
  replace k2 : (appRP 28 _).run Try.prog _ = .ok (.slice C2 (n + 1) e2) v2 := k2
  go_enter Try.func33, Try.ntmps33
  go_upto_region 1 with fail
  rw [← hW]
  clear hW
  go_region
  all_goals
    clear a1 a2 b1 b2 k1 k2 q0 q1 q2 q3 q4 r1 r2 r3 r4 s1 s2 s3 s4 t1 t2 t3 t4 y1 y2 y3 y4 x0 x1 x2 fa0 faf fb0 fbf fc0 fcf
    go_wp2_with fail
    go_end0
    first
      | exact ⟨⟨_, rfl⟩, _, FA.out.1, FA.out.2.1, FA.out.2.2⟩
      | exact ⟨⟨_, rfl⟩, _, FB.out.1, FB.out.2.1, FB.out.2.2⟩
      | exact ⟨⟨_, rfl⟩, _, FC.out.1, FC.out.2.1, FC.out.2.2⟩
end Go.Proofs.Ytnclfopdgilgaaa

namespace Go.Proofs.Ytnclfopdgilgaaa
open Go.RowKit
set_option linter.unusedVariables false

set_option maxHeartbeats 4000000 in
theorem rpop_calls {w : World} {p g n cap : Nat} {vc : Value} {A : List (Pk × Value)} {q : Pk} {v : Value} {L : List Xi} (h : Bv TRB TRP w p vc (.slice (some ⟨g, 0, none⟩) n cap) (A ++ [(q, v)]) L) (hd : A.length ≤ 1000) :
    Calls Try.prog 34 #[Pt p] w fun e w' => e = .returned (.agg #[.int .i64 (q.k : Int), .int .i64 (q.s : Int), v]) ∧ Bv TRB TRP w' p vc (.slice (some ⟨g, 0, none⟩) A.length cap) A L ∧ Gr w' v q.g ∧ Mod [p] w w' := by
  obtain ⟨a, ha⟩ : ∃ a, a = A.length := ⟨_, rfl⟩
  have hn : n = a + 1 := by
    obtain ⟨_, _, e, _⟩ := h.open_slice
    injection e with _ e
    rw [ha]; simpa using e
  have hgr : Gr w v q.g := h.gaps (q, v) (by simp)
  have hgv : v.ownBlock ≠ some p := (h.gp (q, v) (by simp)).1
  obtain ⟨A2, c2, rfl⟩ := hgr.slice
  obtain ⟨gl, hgl⟩ : ∃ gl, gl = q.g.length := ⟨_, rfl⟩
  obtain ⟨W, hW⟩ : ∃ W, W = w.alloc (.cells #[.int .i64 0, .int .i64 0, .slice none 0 0] TRP) := ⟨_, rfl⟩
  have mW : Mod [] w W := by rw [hW]; exact (Mod.refl [] w).alloc _
  have bW : W.heap[w.heap.size]? = some (.cells #[.int .i64 0, .int .i64 0, .slice none 0 0] TRP (0, 0)) := by rw [hW]; exact (MapKept.heap_alloc w _).1
  have sW : W.heap.size = w.heap.size + 1 := by rw [hW, size_allocI]
  have m2 : Mod [] w (W.alloc (.cells #[.int .i64 0, .int .i64 0, .slice none 0 0] TRP)) := mW.alloc _
  have K1 := h.far mW
  have K2 := h.far m2
  have get : ∀ Y, Mod [] w Y → Y.cell? ⟨p, 1, none⟩ = some (.slice (some ⟨g, 0, none⟩) n cap) ∧ Y.cell? ⟨g, a * 3, none⟩ = some (.int .i64 (q.k : Int)) ∧ Y.cell? ⟨g, a * 3 + 1, none⟩ = some (.int .i64 (q.s : Int)) ∧ Y.cell? ⟨g, a * 3 + 2, none⟩ = some (.slice A2 gl c2) := fun Y m => by
    have K := h.far m
    obtain ⟨g', cap', e, _, c0, c1, c2', _⟩ := K.part
    simp only [Value.slice.injEq, Option.some.injEq, Addr.mk.injEq, and_true] at e
    obtain ⟨rfl, _, _⟩ := e
    rw [← ha] at c0 c1 c2'
    refine ⟨K.c1, c0, c1, ?_⟩
    rw [hgl]
    exact c2'
  obtain ⟨i0, i1, i2, i3⟩ := get _ mW
  obtain ⟨j0, j1, j2, j3⟩ := get _ m2
  have hI : (n : Int) ≤ 1001 := by omega
  have hwI : IntKind.i64.wrap ((n : Int) - 1) = (a : Int) := by rw [IntKind.wrap_i64]; omega
  have haI : (n : Int) - 1 = (a : Int) := by omega
  have hlt : (a : Int) < (n : Int) := by omega
  have i0' : (w.alloc (.cells #[.int .i64 0, .int .i64 0, .slice none 0 0] TRP)).cell? ⟨p, 1, none⟩ = some (.slice (some ⟨g, 0, none⟩) n cap) := by rw [← hW]; exact i0
  have HH := Lib.hid (And.intro h (And.intro hgr (And.intro hgv (And.intro ha (And.intro hn hgl)))))
  have HW := Lib.hid (And.intro mW (And.intro bW sW))
  clear h hgr hgv hn mW bW sW m2 K1 K2 get hd
  rw [← hgl] 
  clear hgl ha
  go_enter Try.func34, Try.ntmps34
  go_upto_region 1 with fail
  rw [← hW]
  clear hW i0'
  go_region
  clear i0 i1 i2 i3 j0 j1 j2 j3
  obtain ⟨mW, bW, sW⟩ := HW.out
  have mX : Mod [] W (W.alloc (.cells #[.int .i64 (q.k : Int), .int .i64 (q.s : Int), .slice A2 gl c2] TRP)).drew := ((Mod.refl [] W).alloc _).drew
  have bX : (W.alloc (.cells #[.int .i64 (q.k : Int), .int .i64 (q.s : Int), .slice A2 gl c2] TRP)).drew.heap[W.heap.size]? = some (.cells #[.int .i64 (q.k : Int), .int .i64 (q.s : Int), .slice A2 gl c2] TRP (0, 0)) := (MapKept.heap_alloc W _).1
  generalize (W.alloc (.cells #[.int .i64 (q.k : Int), .int .i64 (q.s : Int), .slice A2 gl c2] TRP)).drew = X at *
  obtain ⟨h, hgr, hgv, ha, hn, hgl⟩ := HH.out
  have Z := h.far (mW.trans mX)
  have k1 := Z.c1
  have kf := Z.f 1
  have hlp := h.lp
  have hac : (a : Int) ≤ (cap : Int) := by
    obtain ⟨_, _, e, _, h4, _⟩ := Z.open_slice
    simp only [Value.slice.injEq] at e
    rw [← e.2.1, ← e.2.2] at h4
    omega
  have mC := Z.cut
  rw [← ha] at mC
  have zb := (mX.block w.heap.size (by omega) (by simp)).trans bW
  have mY : Mod [p] w (X.setCell ⟨p, 1, none⟩ (.slice (some ⟨g, 0, none⟩) a cap)).drew := (((mW.trans mX).up (by simp)).trans mC.2).drew
  have BY : Bv TRB TRP (X.setCell ⟨p, 1, none⟩ (.slice (some ⟨g, 0, none⟩) a cap)).drew p vc (.slice (some ⟨g, 0, none⟩) a cap) A L := mC.1.far (Mod.refl [] _).drew
  have yb := (mC.2.drew.block w.heap.size (by have := mX.size; omega) (by simp; omega)).trans zb
  have yc := (mC.2.drew.block W.heap.size (Array.getElem?_eq_some_iff.1 bX).1 (by simp; omega)).trans bX
  have HX := Lib.hid (And.intro mY (And.intro BY (And.intro yb (And.intro yc hlp))))
  clear mW bW mX bX zb mC mY BY yb yc Z HW h hgr hgv ha hn hgl hlp sW
  go_upto_region 2 with fail
  go_region
  clear k1 kf
  generalize (X.setCell ⟨p, 1, none⟩ (.slice (some ⟨g, 0, none⟩) a cap)).drew = Y at *
  obtain ⟨mY, BY, yb, yc, hlp⟩ := HX.out
  obtain ⟨u0, u1, u2, uf⟩ := three_at yb
  obtain ⟨t0, t1, t2, _⟩ := three_at yc
  have uf0 := uf 0
  have uf1 := uf 1
  have uf2 := uf 2
  have mU := three_mod Y w.heap.size (.int .i64 (q.k : Int)) (.int .i64 (q.s : Int)) (.slice A2 gl c2)
  have hUb : (((Y.setCell ⟨w.heap.size, 0, none⟩ (.int .i64 (q.k : Int))).setCell ⟨w.heap.size, 1, none⟩ (.int .i64 (q.s : Int))).setCell ⟨w.heap.size, 2, none⟩ (.slice A2 gl c2)).heap[w.heap.size]? = some (.cells #[.int .i64 (q.k : Int), .int .i64 (q.s : Int), .slice A2 gl c2] TRP (0, 0)) :=
    heap_setCell_same _ _ 2 _ _ _ (heap_setCell_same _ _ 1 _ _ _ (heap_setCell_same _ _ 0 _ _ _ yb))
  have HY := Lib.hid (And.intro mU hUb)
  clear uf mY BY yb yc hlp mU hUb
  go_wp2_with fail
  generalize ((Y.setCell ⟨w.heap.size, 0, none⟩ (.int .i64 (q.k : Int))).setCell ⟨w.heap.size, 1, none⟩ (.int .i64 (q.s : Int))).setCell ⟨w.heap.size, 2, none⟩ (.slice A2 gl c2) = U at *
  obtain ⟨y0, y1, y2, _⟩ := three_at HY.out.2
  refine bodyPost_ret (v := .agg #[.int .i64 (q.k : Int), .int .i64 (q.s : Int), .slice A2 gl c2]) (by simp [results, Try.results34, go_sem, y0, y1, y2]) rfl ?_
  obtain ⟨mY, BY, _, _, hlp⟩ := HX.out
  obtain ⟨h, hgr, hgv, ha, hn, hgl⟩ := HH.out
  have hin : ∀ x ∈ Sof p vc (.slice (some ⟨g, 0, none⟩) a cap) A, x < w.heap.size := fun x hx => by
    refine h.lt x ?_
    rcases mem_Sof.1 hx with hx | hx | hx | ⟨y, hy, hx⟩
    · exact mem_Sof.2 (Or.inl hx)
    · exact mem_Sof.2 (Or.inr (Or.inl hx))
    · exact mem_Sof.2 (Or.inr (Or.inr (Or.inl hx)))
    · exact mem_Sof.2 (Or.inr (Or.inr (Or.inr ⟨y, by simp [hy], hx⟩)))
  have hf := mY.then HY.out.1 (by simp)
  rw [← ha]
  refine ⟨rfl, BY.mod HY.out.1 fun x hx hy => by have := hin x hx; simp at hy; omega, ?_, hf⟩
  have := row_mod hgr hf fun b hb hx => hgv (by rw [hb, List.mem_singleton.1 hx])
  rw [← hgl] at this
  exact this
end Go.Proofs.Ytnclfopdgilgaaa

namespace Go.Proofs.Ytnclfopdgilgaaa
open Go.RowKit
set_option linter.unusedVariables false

theorem Grew.at {e : TypeId} {k : Nat} {W w' : World} {A : Option Addr} {n c m : Nat} {xs : List Value} (h : Grew e k W w' (.slice A n c) m xs) : ∃ b, A = some ⟨b, 0, none⟩ ∧ W.heap.size ≤ b := by
  obtain ⟨g, hg, hl⟩ := h.own
  rcases h.row.2 with ⟨e1, _⟩ | ⟨b, cap, cur, e1, _⟩
  · simp only [Value.slice.injEq] at e1
    obtain ⟨rfl, _⟩ := e1
    cases hg
  · simp only [Value.slice.injEq] at e1
    obtain ⟨rfl, _⟩ := e1
    exact ⟨b, rfl, by have : b = g := by simpa [Value.ownBlock] using hg
                      omega⟩
theorem Xr.setA {w : World} {g n cap : Nat} {L : List Xi} (h : Xr w 0 (.slice (some ⟨g, 0, none⟩) n cap) L) (i a : Nat) : Xr (w.setCell ⟨g, i * 3 + 1, none⟩ (.int .i64 (a : Int))) 0 (.slice (some ⟨g, 0, none⟩) n cap) (setA L i a) := by
  have hn : n = L.length := h.len.1
  subst hn
  have hr : w.ownsRow 0 35 3 (.slice (some ⟨g, 0, none⟩) L.length cap) L.length (flatsX L) := h
  have := (hr.stored (i * 3 + 1) (.int .i64 (a : Int))).1
  unfold Xr
  rw [setA_len, flats_setA]
  exact this
theorem Xr.atX {w : World} {g n cap : Nat} {L : List Xi} (h : Xr w 0 (.slice (some ⟨g, 0, none⟩) n cap) L) {i : Nat} {x : Xi} (hx : L[i]? = some x) : AtX w g (i * 3) x ∧ ∀ j, w.frozen? ⟨g, j, none⟩ = false := by
  obtain ⟨hi, rfl⟩ := List.getElem?_eq_some_iff.1 hx
  have hn : n = L.length := h.len.1
  subst hn
  have hr : w.ownsRow 0 35 3 (.slice (some ⟨g, 0, none⟩) L.length cap) L.length (flatsX L) := h
  have get : ∀ k, k < 3 → w.cell? ⟨g, i * 3 + k, none⟩ = (flatX L[i])[k]? := fun k hk => by
    rw [hr.cellAt (i * 3 + k) (by omega), flatsX_get L i k hi hk]
  exact ⟨⟨get 0 (by omega), get 1 (by omega), get 2 (by omega)⟩, hr.frozenAt⟩
set_option maxHeartbeats 4000000 in
set_option maxRecDepth 100000 in
theorem rcloses_calls {w : World} {p : Nat} {vc vo : Value} {O : List (Pk × Value)} {L : List Xi} (h : Bv TRB TRP w p vc vo O L) (hl : L.length ≤ 999) (v : Value) (G : List Nat) (hv : Gr w v G) (hlt : ∀ i ∈ G, i < L.length) (hg : G.length ≤ 1000) :
    Calls Try.prog 35 #[Pt p, v] w fun e w' => (∃ r, e = .returned r) ∧ ∃ vc', Bv TRB TRP w' p vc' vo O (closeL L.length G L) ∧ Turn (Sof p vc vo O) (Sof p vc' vo O) w w' ∧ ∃ b, vc'.ownBlock = some b ∧ w.heap.size ≤ b := by
  obtain ⟨A0, cap0, hvc, _⟩ := h.code_slice
  obtain ⟨A2, c2, hv2⟩ := hv.slice
  obtain ⟨gl, hgl⟩ : ∃ gl, gl = G.length := ⟨_, rfl⟩
  rw [← hgl] at hv2
  subst hv2
  obtain ⟨n, hn⟩ : ∃ n, n = L.length := ⟨_, rfl⟩
  rw [← hn] at hvc
  subst hvc
  have mW : Mod [] w (w.alloc (.cells #[] 35)) := (Mod.refl [] w).alloc _
  have hrow : w.ownsRow 0 35 3 (.slice A0 n cap0) n (flatsX L) := by have := h.code; unfold Xr at this; rw [← hn] at this; exact this
  obtain ⟨A1, c1, w1, a1, g1, _⟩ := elX.base mW (Nat.le_refl _) (lit_row 35 3 w) hrow (flatsX_cells L) (by omega) 27
  obtain ⟨b, rfl, hb⟩ := g1.at
  have hr1 : Xr w1 0 (.slice (some ⟨b, 0, none⟩) n c1) L := by unfold Xr; rw [← hn]; exact g1.row
  have h0 := Lib.hid (And.intro hr1 g1.m)
  have k0 := (h.far mW).c0
  have glI : (gl : Int) ≤ 1000 := by omega
  have nI : (n : Int) ≤ 999 := by omega
  have HH := Lib.hid (And.intro h (And.intro hn (And.intro hgl (And.intro hv (And.intro hlt (And.intro hb hg))))))
  replace a1 : (appIns 27 _).run Try.prog _ = .ok (.slice (some ⟨b, 0, none⟩) n c1) w1 := a1
  clear h hl hv hlt hg hn hgl hrow g1 hr1 mW hb
  go_enter Try.func35, Try.ntmps35
  go_wp2_with fail
  clear a1 k0
  go_loopg [5] gl (fun g' z wr => ∃ i : Nat, z = .int .i64 (i : Int) ∧ i + g' = gl ∧ RowKit.Hid (Xr wr 0 (.slice (some ⟨b, 0, none⟩) n c1) (closeL n (G.take i) L) ∧ Mod [] w wr))
  case atStart => exact ⟨0, rfl, by omega, Lib.hid ⟨by simpa [closeL] using h0.out.1, h0.out.2⟩⟩
  case round =>
    clear h0
    obtain ⟨i, rfl, hig, hi⟩ := hrel
    obtain ⟨h, hn, hgl, hv, hlt, hb, hg⟩ := HH.out
    by_cases hlt2 : i < gl
    · have hltI : (i : Int) < (gl : Int) := by omega
      obtain ⟨x, hx⟩ : ∃ x, G[i]? = some x := ⟨_, List.getElem?_eq_getElem (by omega)⟩
      have hvr : Gr wr (.slice A2 gl c2) G := row_mod hv hi.out.2 (by simp)
      obtain ⟨b2, cp2, e, hc⟩ := hvr.at hx
      simp only [Value.slice.injEq] at e
      obtain ⟨rfl, _, _⟩ := e
      have hxl : x < L.length := hlt x (List.mem_of_getElem? hx)
      obtain ⟨y, hy⟩ : ∃ y, (closeL n (G.take i) L)[x]? = some y := ⟨_, List.getElem?_eq_getElem (by rw [closeL_len]; exact hxl)⟩
      obtain ⟨hat, hfr⟩ := hi.out.1.atX hy
      have hc1 := hat.c1
      have hf1 := hfr (x * 3 + 1)
      have hS := hi.out.1.setA x n
      have e2 : closeL n (G.take (i + 1)) L = Go.Proofs.Ytnclfopdgilgaaa.setA (closeL n (G.take i) L) x n := by rw [take_more hx, closeL_snoc]
      have hxI : (x : Int) < (n : Int) := by omega
      have hm2 := set_mod wr b (x * 3 + 1) (.int .i64 (n : Int))
      have HS := Lib.hid (And.intro hS (And.intro e2 (And.intro (hi.out.2.then hm2 fun y hy => by rw [List.mem_singleton.1 hy]; exact Or.inr hb) hig)))
      clear hi hat hfr hS e2 hy hx hig hm2 hvr h hn hgl hv hlt hb hg hxl
      go_wp2_with fail
      go_roundg (gk - 1)
      case measure => have := HS.out.2.2.2; omega
      case rel => exact ⟨i + 1, by go_num, by have := HS.out.2.2.2; omega, Lib.hid ⟨by rw [HS.out.2.1]; exact HS.out.1, HS.out.2.2.1⟩⟩
    · have hltI : ¬ (i : Int) < (gl : Int) := by omega
      obtain rfl : i = gl := by omega
      have hb' := hi.out
      rw [List.take_of_length_le (by omega)] at hb'
      have K := h.far hb'.2
      have k0 := K.c0
      have kf := K.f 0
      have HB := Lib.hid (And.intro hb' (h.code_new hb'.2 hb'.1 ⟨b, rfl, hb⟩))
      clear hi hb' K h hn hgl hv hlt hb hg hig hlt2
      go_wp2_with fail
      go_end0
      refine ⟨⟨_, rfl⟩, _, ?_, HB.out.2.2, b, rfl, HH.out.2.2.2.2.2.1⟩
      rw [← HH.out.2.1]
      exact HB.out.2.1
end Go.Proofs.Ytnclfopdgilgaaa

namespace Go.Proofs.Ytnclfopdgilgaaa
open Go.RowKit
set_option linter.unusedVariables false

theorem gr_more {w : World} {v : Value} {g : List Nat} {i n : Nat} (h : w.ownsRow 0 3 1 v n (intsV (ints g) ++ #[Value.int .i64 (i : Int)].toList)) (hn : n = g.length + 1) : Gr w v (g ++ [i]) := by
  subst hn
  have e : intsV (ints (g ++ [i])) = intsV (ints g) ++ #[Value.int .i64 (i : Int)].toList := by simp [intsV]
  show w.ownsRow 0 3 1 v (ints (g ++ [i])).length (intsV (ints (g ++ [i])))
  rw [e, show (ints (g ++ [i])).length = g.length + 1 by simp]
  exact h
theorem intsV_cells (g : List Int) : ∀ u ∈ intsV g, u.oneCell' = true := fun u hu => by
  obtain ⟨x, _, rfl⟩ := List.mem_map.1 hu
  rfl
theorem Gr.raw {w : World} {v : Value} {g : List Nat} (h : Gr w v g) : w.ownsRow 0 3 1 v g.length (intsV (ints g)) := by
  have h' : w.ownsRow 0 3 1 v (ints g).length (intsV (ints g)) := h
  rwa [List.length_map] at h'
theorem topmost_take {k : Nat} {P : List Pk} {i : Nat} {q : Pk} (h : P[i]? = some q) : topmost k (P.take (i + 1)) = if q.k = k then (i : Int) else topmost k (P.take i) := by
  obtain ⟨hi, rfl⟩ := List.getElem?_eq_some_iff.1 h
  rw [List.take_succ_eq_append_getElem hi, topmost_snoc, List.length_take, Nat.min_eq_left (by omega)]
set_option maxHeartbeats 8000000 in
set_option maxRecDepth 100000 in
theorem rleave_calls {w : World} {p : Nat} {vc vo : Value} {A B : List (Pk × Value)} {q : Pk} {v : Value} {L : List Xi} (h : Bv TRB TRP w p vc vo (A ++ (q, v) :: B) L) (hd : (A ++ (q, v) :: B).length ≤ 998) (hq : q.k = 2) (hB : ∀ d ∈ B, d.1.k ≠ 2) (hg : q.g.length ≤ 990) (i : Nat) :
    Calls Try.prog 36 #[Pt p, .int .i64 (i : Int)] w fun e w' => (∃ r, e = .returned r) ∧ ∃ vo' v', Bv TRB TRP w' p vc vo' (A ++ ({ q with g := q.g ++ [i] }, v') :: B) L ∧ Mod [p] w w' ∧ (∃ b, vo'.ownBlock = some b ∧ w.heap.size ≤ b) ∧ ∃ b, v'.ownBlock = some b ∧ w.heap.size ≤ b := by
  obtain ⟨A0, cap0, hvo, hA1, hA2, hk⟩ := h.kinds
  obtain ⟨n, hn⟩ : ∃ n, n = (A ++ (q, v) :: B).length := ⟨_, rfl⟩
  obtain ⟨O, hO⟩ : ∃ O, O = A ++ (q, v) :: B := ⟨_, rfl⟩
  rw [← hn] at hvo hd
  rw [← hO] at hk
  subst hvo
  have hgr : Gr w v q.g := h.gaps (q, v) (by simp)
  obtain ⟨A2, c2, hv2⟩ := hgr.slice
  obtain ⟨gl, hgl⟩ : ∃ gl, gl = q.g.length := ⟨_, rfl⟩
  rw [← hgl] at hv2
  subst hv2
  obtain ⟨a, ha⟩ : ∃ a, a = A.length := ⟨_, rfl⟩
  have htop : (topmost 2 (O.map Prod.fst)).toNat = a := by
    have e : O.map Prod.fst = A.map Prod.fst ++ q :: B.map Prod.fst := by rw [hO]; simp
    rw [e, topmost_is hq fun d hd => by
      obtain ⟨x, hx, rfl⟩ := List.mem_map.1 hd
      exact hB x hx]
    simp [ha]
  have haI : (a : Int) < (n : Int) := by rw [hn, ha]; simp; omega
  have hnI : (n : Int) ≤ 998 := by omega
  have hOn : O.length = n := by rw [hO, hn]
  -- the copy
  have mW : Mod [] w (w.alloc (.cells #[] TRP)) := (Mod.refl [] w).alloc _
  have hrow : w.ownsRow 0 TRP 3 (.slice A0 n cap0) n (flatO O) := by have := h.row; rw [← hn, ← hO] at this; exact this
  obtain ⟨A1, c1, w1, a1, g1, _⟩ := elP.base mW (Nat.le_refl _) (lit_row TRP 3 w) hrow (flatO_cells fun x hx => (h.gaps x (by rw [← hO]; exact hx)).one) (by omega) 28
  obtain ⟨b, rfl, hb⟩ := g1.at
  have hb1 : b < w1.heap.size := (World.ownsRow.lt g1.row b rfl).2
  have k1 := h.c1
  have k1W := (h.far mW).c1
  -- the gaps
  have mI : Mod [] w1 (w1.alloc (.cells #[] 3)) := (Mod.refl [] w1).alloc _
  have hg1 : w1.ownsRow 0 3 1 (.slice A2 gl c2) gl (intsV (ints q.g)) := by have := Gr.raw (row_mod hgr g1.m (by simp)); rw [← hgl] at this; exact this
  obtain ⟨A3, c3, w2, a2, g2, _⟩ := elN.base mI (Nat.le_refl _) (lit_row 3 1 w1) hg1 (intsV_cells _) (by omega) 46
  have mJ : Mod [] w2 (w2.alloc (.cells #[.int .i64 (i : Int)] 3)) := (Mod.refl [] w2).alloc _
  obtain ⟨A4, c4, w3, a3, g3⟩ := elN.last (g2.far mJ) (by omega) ⟨w2.heap.size, 0, none⟩ 1 #[.int .i64 (i : Int)].toList rfl (new_cells w2 #[.int .i64 (i : Int)] 3) (by simp; rfl) 46
  obtain ⟨b4, rfl, hb4⟩ := g3.at
  have hrow1 : w1.ownsRow 0 TRP 3 (.slice (some ⟨b, 0, none⟩) n c1) n (flatO O) := g1.row
  have hrow3 := row_mod hrow1 g3.m (by simp)
  have cellA : ∀ {Y : World}, Y.ownsRow 0 TRP 3 (.slice (some ⟨b, 0, none⟩) n c1) n (flatO O) → Y.cell? ⟨b, a * 3 + 2, none⟩ = some (.slice A2 gl c2) := fun {Y} hr => by
    rw [hr.cellAt (a * 3 + 2) (by omega), hO, ha, flatO_get A _ B 2 (by omega)]
    rfl
  have d1 := cellA (row_mod hrow1 mI (by simp))
  have d3 := cellA hrow3
  have f3 : w3.frozen? ⟨b, a * 3 + 2, none⟩ = false := hrow3.frozenAt _
  have hm4 := set_mod w3 b (a * 3 + 2) (.slice (some ⟨b4, 0, none⟩) (gl + 1) c4)
  have hrow4 := (hrow3.stored (a * 3 + 2) (.slice (some ⟨b4, 0, none⟩) (gl + 1) c4)).1
  have mAll : Mod [] w (w3.setCell ⟨b, a * 3 + 2, none⟩ (.slice (some ⟨b4, 0, none⟩) (gl + 1) c4)) := (g1.m.trans g3.m).then hm4 fun y hy => by rw [List.mem_singleton.1 hy]; exact Or.inr hb
  have hv4 : Gr (w3.setCell ⟨b, a * 3 + 2, none⟩ (.slice (some ⟨b4, 0, none⟩) (gl + 1) c4)) (.slice (some ⟨b4, 0, none⟩) (gl + 1) c4) (q.g ++ [i]) := by
    refine gr_more (row_mod g3.row hm4 fun g hg hx => ?_) (by rw [hgl])
    have e1 : g = b4 := by simpa [Value.ownBlock, eq_comm] using hg
    have e2 : g = b := by simpa using hx
    omega
  have fin : Bv TRB TRP ((w3.setCell ⟨b, a * 3 + 2, none⟩ (.slice (some ⟨b4, 0, none⟩) (gl + 1) c4)).setCell ⟨p, 1, none⟩ (.slice (some ⟨b, 0, none⟩) n c1)) p vc (.slice (some ⟨b, 0, none⟩) n c1) (A ++ ({ q with g := q.g ++ [i] }, .slice (some ⟨b4, 0, none⟩) (gl + 1) c4) :: B) L ∧ Mod [p] w ((w3.setCell ⟨b, a * 3 + 2, none⟩ (.slice (some ⟨b4, 0, none⟩) (gl + 1) c4)).setCell ⟨p, 1, none⟩ (.slice (some ⟨b, 0, none⟩) n c1)) := by
    have mem : ∀ x ∈ A ++ (({ q with g := q.g ++ [i] } : Pk), Value.slice (some ⟨b4, 0, none⟩) (gl + 1) c4) :: B, x = ({ q with g := q.g ++ [i] }, .slice (some ⟨b4, 0, none⟩) (gl + 1) c4) ∨ x ∈ A ++ (q, Value.slice A2 gl c2) :: B := fun x hx => by
      rcases List.mem_append.1 hx with hx | hx
      · exact Or.inr (by simp [hx])
      · rcases List.mem_cons.1 hx with hx | hx
        · exact Or.inl hx
        · exact Or.inr (by simp [hx])
    refine h.open_new mAll ?_ ⟨b, rfl, hb⟩ (fun x hx => ?_) (fun x hx e => ?_) (fun x hx => ?_) ?_
    · rw [hO, ha, flatO_set2] at hrow4
      have e2 : flatO (A ++ (({ q with g := q.g ++ [i] } : Pk), Value.slice (some ⟨b4, 0, none⟩) (gl + 1) c4) :: B) = flatO (A ++ (q, Value.slice (some ⟨b4, 0, none⟩) (gl + 1) c4) :: B) := by simp [flatO, flatQ]
      rw [e2, show (A ++ (({ q with g := q.g ++ [i] } : Pk), Value.slice (some ⟨b4, 0, none⟩) (gl + 1) c4) :: B).length = n by rw [hn]; simp, ha]
      exact hrow4
    · rcases mem x hx with rfl | hx
      · exact hv4
      · exact row_mod (h.gaps x hx) mAll (by simp)
    · rcases mem x hx with rfl | hx
      · have : b = b4 := by simpa [Value.ownBlock] using e
        omega
      · have e2 : some b = x.2.ownBlock := e
        have := h.lg x hx b e2.symm
        omega
    · rcases mem x hx with rfl | hx
      · have hsz := g1.m.size
        refine ⟨fun e => ?_, fun g hg => ⟨fun e => ?_, fun e => ?_⟩⟩
        · have : b4 = p := by simpa [Value.ownBlock] using e
          have := h.lp
          omega
        · have : b4 = g := by simpa [Value.ownBlock] using hg
          have := h.lc g e
          omega
        · have : b4 = g := by simpa [Value.ownBlock] using hg
          have := h.lo g e
          omega
      · exact h.gp x hx
    · have hgg := h.gg
      have hsz := g1.m.size
      rw [List.pairwise_append, List.pairwise_cons] at hgg ⊢
      obtain ⟨h1, ⟨h2, h3⟩, h4⟩ := hgg
      refine ⟨h1, ⟨fun x hx g hg e => ?_, h3⟩, fun x hx y hy g hg e => ?_⟩
      · have : b4 = g := by simpa [Value.ownBlock] using hg
        have := h.lg x (by simp [hx]) g e
        omega
      · rcases List.mem_cons.1 hy with rfl | hy
        · have : b4 = g := by simpa [Value.ownBlock] using e
          have := h.lg x (by simp [hx]) g hg
          omega
        · exact h4 x hx y (by simp [hy]) g hg e
  have K4 := h.far mAll
  have k4 := K4.c1
  have f4 := K4.f 1
  have hszb : w.heap.size ≤ b4 := by have := g1.m.size; omega
  have HF := Lib.hid (And.intro fin (And.intro hb hszb))
  have HK := Lib.hid (And.intro hk (And.intro hOn (And.intro htop haI)))
  have K1 := Lib.hid (And.intro k1 (And.intro k1W (And.intro d1 (And.intro d3 (And.intro f3 (And.intro k4 f4))))))
  replace a1 : (appRP 28 _).run Try.prog _ = .ok (.slice (some ⟨b, 0, none⟩) n c1) w1 := a1
  replace a2 : (appInts 46 _).run Try.prog _ = .ok (.slice A3 gl c3) w2 := a2
  replace a3 : (appInts 46 _).run Try.prog _ = .ok (.slice (some ⟨b4, 0, none⟩) (gl + 1) c4) w3 := a3
  have A123 := Lib.hid (And.intro a1 (And.intro a2 a3))
  clear h hd hq hB hg hgr hgl ha htop hOn mW hrow a1 g1 hb hb1 k1W mI hg1 a2 g2 mJ a3 g3 hb4 hrow1 hrow3 cellA d1 d3 f3 hm4 hrow4 mAll hv4 fin K4 k4 f4 hszb hA1 hA2 hk
  clear hO hn
  go_enter Try.func36, Try.ntmps36
  go_wp2_with fail
  go_loopg [4, 5] n (fun g y z wr => ∃ j kk : Nat, y = .int .i64 (kk : Int) ∧ z = .int .i64 (j : Int) ∧ j + g = n ∧ RowKit.Hid (w = wr ∧ kk = (topmost 2 ((O.map Prod.fst).take j)).toNat))
  case atStart => exact ⟨0, 0, rfl, rfl, by omega, Lib.hid ⟨rfl, by simp [topmost]⟩⟩
  case round =>
    obtain ⟨j, kk, rfl, rfl, hjg, hj⟩ := hrel
    obtain rfl := hj.out.1
    by_cases hlt : j < n
    · have hltI : (j : Int) < (n : Int) := by omega
      obtain ⟨x, hx⟩ : ∃ x, O[j]? = some x := ⟨_, List.getElem?_eq_getElem (by have := HK.out.2.1; omega)⟩
      obtain ⟨g, rfl, hc⟩ := HK.out.1 j x hx
      obtain ⟨qk, hqk⟩ : ∃ qk, qk = x.1.k := ⟨_, rfl⟩
      rw [← hqk] at hc
      have ht := topmost_take (k := 2) (P := O.map Prod.fst) (i := j) (q := x.1) (by rw [List.getElem?_map, hx]; rfl)
      rw [← hqk] at ht
      have HI := Lib.hid (And.intro hjg (And.intro ht hj.out.2))
      clear hj ht hjg hlt hx hqk
      by_cases e2 : qk = 2
      · subst e2
        go_wp2_with fail
        go_roundg (gk - 1)
        case measure => have := HI.out.1; omega
        case rel => exact ⟨j + 1, j, rfl, by go_num, by have := HI.out.1; omega, Lib.hid ⟨rfl, by rw [HI.out.2.1]; simp⟩⟩
      · have e3 : ((qk : Int) == 2) = false := by rw [beq_eq_false_iff_ne]; omega
        have E2 := Lib.hid e2
        clear e2
        go_wp2_with fail
        go_roundg (gk - 1)
        case measure => have := HI.out.1; omega
        case rel => exact ⟨j + 1, kk, rfl, by go_num, by have := HI.out.1; omega, Lib.hid ⟨rfl, by rw [HI.out.2.1, if_neg E2.out]; exact HI.out.2.2⟩⟩
    · have hltI : ¬ (j : Int) < (n : Int) := by omega
      obtain rfl : kk = a := by
        rw [hj.out.2, List.take_of_length_le (by rw [List.length_map]; have := HK.out.2.1; omega)]
        exact HK.out.2.2.1
      have haI := HK.out.2.2.2
      obtain ⟨_, k1W, d1, d3, f3, k4, f4⟩ := K1.out
      obtain ⟨a1, a2, a3⟩ := A123.out
      clear hj hjg hlt K1 A123
      go_wp2_with fail
      go_end0
      exact ⟨⟨_, rfl⟩, _, _, HF.out.1.1, HF.out.1.2, ⟨b, rfl, HF.out.2.1⟩, b4, rfl, HF.out.2.2⟩
end Go.Proofs.Ytnclfopdgilgaaa
