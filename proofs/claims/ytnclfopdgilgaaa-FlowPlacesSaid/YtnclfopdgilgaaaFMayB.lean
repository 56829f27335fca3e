/- Layer 11: what comes of parts that are all closed may be (FlowMay's walk). Condition: the row of small numbers came in. -/
import Derived.Test.YtnclfopdgilgaaaFT
import Derived.Deep.Cut
import Derived.Deep.DeepCutAuto
namespace Go.Proofs.Ytnclfopdgilgaaa
open Go.RowKit
set_option linter.unusedVariables false

/-- A branch lies on a choice. -/
def Br (P : List Pk) : Prop := ∀ A q D, P = A ++ q :: D → q.k = 5 → ∃ A' p, A = A' ++ [p] ∧ p.k = 4
theorem br_nil : Br [] := fun A q D h => by simp at h
theorem Br.cut {C D : List Pk} (h : Br (C ++ D)) : Br C := fun A q E he hk => h A q (E ++ D) (by rw [he]; simp) hk
theorem Br.top {C : List Pk} {q : Pk} (h : Br (C ++ [q])) (hk : q.k = 5) : ∃ A' p, C = A' ++ [p] ∧ p.k = 4 := h C q [] (by simp) hk
theorem Br.push {C : List Pk} {q : Pk} (h : Br C) (hq : q.k = 5 → ∃ A' p, C = A' ++ [p] ∧ p.k = 4) : Br (C ++ [q]) := fun A r D he hk => by
  rcases List.eq_nil_or_concat D with rfl | ⟨D', d, rfl⟩
  · obtain ⟨e1, e2⟩ := List.append_inj' he rfl
    have e2 : q = r := by simpa using e2
    subst e1 e2
    exact hq hk
  · rw [List.concat_eq_append] at he
    have e3 : C ++ [q] = (A ++ r :: D') ++ [d] := by rw [he]; simp
    obtain ⟨e1, _⟩ := List.append_inj' e3 rfl
    exact h A r D' e1 hk
theorem Br.plain {C : List Pk} {q : Pk} (h : Br C) (hq : q.k ≠ 5) : Br (C ++ [q]) := h.push fun e => absurd e hq
theorem Br.more {C : List Pk} {q : Pk} {D : List Pk} (h : Br (C ++ q :: D)) (g : List Nat) : Br (C ++ { q with g := g } :: D) := by
  -- by what is told of kinds alone
  have key : ∀ P Q : List Pk, P.map Pk.k = Q.map Pk.k → Br P → Br Q := fun P Q hm hP A r E he hk => by
    rw [he, List.map_append, List.map_cons] at hm
    have hl : A.length < P.length := by have := congrArg List.length hm; simp at this; omega
    have e : P = P.take A.length ++ P[A.length] :: P.drop (A.length + 1) := by rw [← List.drop_eq_getElem_cons hl, List.take_append_drop]
    have hm2 : P.map Pk.k = (P.take A.length).map Pk.k ++ (P[A.length]).k :: (P.drop (A.length + 1)).map Pk.k := by rw [← List.map_cons, ← List.map_append, ← e]
    rw [hm2] at hm
    obtain ⟨e1, e2⟩ := List.append_inj hm (by simp; omega)
    injection e2 with e2 _
    obtain ⟨A', p, h1, h2⟩ := hP _ _ _ e (by rw [e2]; exact hk)
    rw [h1, List.map_append] at e1
    rcases List.eq_nil_or_concat A with rfl | ⟨A2, a, rfl⟩
    · simp at e1
    · rw [List.concat_eq_append, List.map_append] at e1
      have e4 := (List.append_inj' e1 rfl).2
      have e4 : p.k = a.k := by simpa using e4
      exact ⟨A2, a, by simp, by omega⟩
  exact key _ _ (by simp) h
theorem Br.does {B : Bd} (h : Br B.P) (n : Int) : Br (doB n B).2.P := by
  unfold doB
  cases hn : rowI n with
  | none => exact h
  | some r =>
    simp only
    split
    · rename_i hf
      split
      · show Br (actB r.act (if r.lays = 0 then B else layB ⟨r.lays, 0, 0⟩ B)).P
        obtain ⟨L, P⟩ := B
        simp only at hf h
        rcases row_ends n with e | ⟨h1, h2⟩
        · rw [e] at hn; cases hn
        have hc : n = 1 ∨ n = 2 ∨ n = 3 ∨ n = 4 ∨ n = 5 ∨ n = 6 ∨ n = 7 ∨ n = 8 ∨ n = 9 ∨ n = 10 ∨ n = 11 ∨ n = 12 ∨ n = 13 ∨ n = 14 ∨ n = 15 ∨ n = 16 ∨ n = 17 := by omega
        have back : ∀ {x : Xi} {k : Nat}, endsB [k] P = true → Br (backB ⟨L ++ [x], P⟩).P := fun {x k} he => by
          obtain ⟨C, q, rfl, _⟩ := ends_one he
          rw [back_snoc]
          exact h.cut
        rcases hc with rfl | rfl | rfl | rfl | rfl | rfl | rfl | rfl | rfl | rfl | rfl | rfl | rfl | rfl | rfl | rfl | rfl
        all_goals obtain rfl := Option.some.inj hn
        all_goals simp [fitsB] at hf
        · exact h.plain (by simp)
        · obtain ⟨C, q, rfl, _⟩ := ends_one hf
          show Br (gapB (closeB ⟨L ++ [Xi.mk 3 0 0], C ++ [q]⟩)).P
          rw [move_snoc]
          exact h.cut.plain (by simp)
        · obtain ⟨C, q, rfl, _⟩ := ends_one hf
          show Br (closeB ⟨L, C ++ [q]⟩).P
          rw [close_snoc]
          exact h.cut
        · exact h.plain (by simp)
        · obtain ⟨C, q, rfl, hq⟩ := ends_one hf
          show Br (belowB ⟨L ++ [Xi.mk 4 0 0], C ++ [q]⟩).P
          rw [below_snoc]
          have := (h.cut.plain (q := ⟨1, (L ++ [Xi.mk 4 0 0]).length, [(L ++ [Xi.mk 4 0 0]).length - 1]⟩) (by simp)).plain (q := q) (by omega)
          simpa using this
        · obtain ⟨C, p, q, rfl, _, _⟩ := ends_two hf
          show Br (closeB (backB ⟨L ++ [Xi.mk 3 0 0], C ++ [p, q]⟩)).P
          rw [gone_snoc]
          exact h.cut
        · exact back hf
        · exact back hf
        · exact h.plain (by simp)
        · exact h.plain (by simp)
        · exact back hf
        · exact back hf
        · obtain ⟨j, hj⟩ := Int.eq_ofNat_of_zero_le hf.2
          obtain ⟨C, q, D, rfl, _, hq3, hD⟩ := topmost_at hj
          show Br (leaveB ⟨L ++ [Xi.mk 9 0 0], C ++ q :: D⟩).P
          rw [leave_mid _ _ _ _ hq3 hD]
          exact h.more _
        · exact h.plain (by simp)
        · obtain ⟨C, q, rfl, hq⟩ := ends_one hf
          exact h.push fun _ => ⟨C, q, rfl, hq⟩
        · obtain ⟨C, p, q, rfl, _, _⟩ := ends_two hf
          show Br (branchB ⟨L ++ [Xi.mk 3 0 0], C ++ [p, q]⟩).P
          rw [branch_snoc]
          have e : C ++ [p, q] = (C ++ [p]) ++ [q] := by simp
          rw [e] at h
          exact Br.more (D := []) h.cut _
        · obtain ⟨C, q, rfl, _⟩ := ends_one hf
          show Br (closeB ⟨L ++ [Xi.mk 11 0 0], C ++ [q]⟩).P
          rw [close_snoc]
          exact h.cut
      · exact h
    · exact h
/-- What does not answer 0 changes nothing. -/
theorem do_same {B : Bd} (n : Int) (h : (doB n B).1 ≠ 0) : (doB n B).2 = B := by
  revert h
  unfold doB
  cases rowI n with
  | none => intro _; rfl
  | some r =>
    simp only
    split
    · split
      · intro h; exact absurd rfl h
      · intro _; rfl
    · intro _; rfl
theorem len_if (c : Prop) [Decidable c] (X Y : Bd) : (if c then X else Y).L.length = if c then X.L.length else Y.L.length := by split <;> rfl
theorem act_len (a : Nat) (B : Bd) : (actB a B).L.length = B.L.length := by
  unfold actB
  simp only [len_if, gapB, openB, closeB, backB, belowB, leaveB, branchB, closeL_len, setA_len, ite_self]
theorem do_len (n : Int) (B : Bd) : (doB n B).2.L.length ≤ B.L.length + 1 := by
  unfold doB
  cases rowI n with
  | none => exact Nat.le_succ _
  | some r =>
    simp only
    split
    · split
      · simp only [act_len]
        split
        · exact Nat.le_succ _
        · simp [layB]
      · exact Nat.le_succ _
    · exact Nat.le_succ _
theorem put_len (x : Xi) (B : Bd) : (putB x B).2.L.length ≤ B.L.length + 1 := by
  unfold putB
  split
  · simp [layB]
  · exact Nat.le_succ _
def closers : List Int := [3, 6, 7, 11, 16, 17]
theorem close_less {B : Bd} {n : Int} (hn : n ∈ closers) (h : (doB n B).1 = 0) : (doB n B).2.P.length < B.P.length := by
  obtain ⟨L, P⟩ := B
  simp only [closers, List.mem_cons, List.not_mem_nil, or_false] at hn
  revert h
  unfold doB
  rcases hn with rfl | rfl | rfl | rfl | rfl | rfl
  · simp only [show rowI 3 = some ⟨[1], 0, 0, false, 2⟩ from rfl]
    split
    · rename_i hf
      simp [fitsB] at hf
      obtain ⟨C, q, rfl, _⟩ := ends_one hf
      split
      · intro _
        show (closeB ⟨L, C ++ [q]⟩).P.length < _
        rw [close_snoc]; simp
      · intro h; cases h
    · intro h; cases h
  · simp only [show rowI 6 = some ⟨[1, 2], 0, 3, false, 5⟩ from rfl]
    split
    · rename_i hf
      simp [fitsB] at hf
      obtain ⟨C, p, q, rfl, _, _⟩ := ends_two hf
      split
      · intro _
        show (closeB (backB ⟨L ++ [Xi.mk 3 0 0], C ++ [p, q]⟩)).P.length < _
        rw [gone_snoc]; simp
      · intro h; cases h
    · intro h; cases h
  · simp only [show rowI 7 = some ⟨[2], 0, 4, false, 6⟩ from rfl]
    split
    · rename_i hf
      simp [fitsB] at hf
      obtain ⟨C, q, rfl, _⟩ := ends_one hf
      split
      · intro _
        show (backB ⟨L ++ [Xi.mk 4 0 0], C ++ [q]⟩).P.length < _
        rw [back_snoc]; simp
      · intro h; cases h
    · intro h; cases h
  · simp only [show rowI 11 = some ⟨[3], 0, 7, false, 6⟩ from rfl]
    split
    · rename_i hf
      simp [fitsB] at hf
      obtain ⟨C, q, rfl, _⟩ := ends_one hf
      split
      · intro _
        show (backB ⟨L ++ [Xi.mk 7 0 0], C ++ [q]⟩).P.length < _
        rw [back_snoc]; simp
      · intro h; cases h
    · intro h; cases h
  · simp only [show rowI 16 = some ⟨[4, 5], 0, 3, false, 12⟩ from rfl]
    split
    · rename_i hf
      simp [fitsB] at hf
      obtain ⟨C, p, q, rfl, _, _⟩ := ends_two hf
      split
      · intro _
        show (branchB ⟨L ++ [Xi.mk 3 0 0], C ++ [p, q]⟩).P.length < _
        rw [branch_snoc]; simp
      · intro h; cases h
    · intro h; cases h
  · simp only [show rowI 17 = some ⟨[4], 0, 11, false, 2⟩ from rfl]
    split
    · rename_i hf
      simp [fitsB] at hf
      obtain ⟨C, q, rfl, _⟩ := ends_one hf
      split
      · intro _
        show (closeB ⟨L ++ [Xi.mk 11 0 0], C ++ [q]⟩).P.length < _
        rw [close_snoc]; simp
      · intro h; cases h
    · intro h; cases h
theorem ends_pair (C : List Pk) (p q : Pk) : endsB [p.k, q.k] (C ++ [p, q]) = true := by unfold endsB; rw [decide_eq_true_eq]; exact ⟨C.map Pk.k, by simp⟩
/-- One of them closes what is open. -/
theorem some_close {B : Bd} (ok : OkB B) (br : Br B.P) (hl : B.L.length < 499) (hP : 0 < B.P.length) : ∃ n ∈ closers, (doB n B).1 = 0 := by
  obtain ⟨L, P⟩ := B
  simp only at hl hP br
  rcases List.eq_nil_or_concat P with rfl | ⟨C, q, rfl⟩
  · simp at hP
  rw [List.concat_eq_append] at *
  have hk := (ok.part q (by simp)).kind
  have hc : q.k = 1 ∨ q.k = 2 ∨ q.k = 3 ∨ q.k = 4 ∨ q.k = 5 := by omega
  have fine : ∀ (n : Int) (k la a : Nat), rowI n = some ⟨[k], 0, la, false, a⟩ → q.k = k → n ∈ closers → (doB n ⟨L, C ++ [q]⟩).1 = 0 := fun n k la a hn hq _ => by
    subst hq
    rw [do_fine n _ hn (by unfold fitsB; simp [ends_snoc]) (by unfold roomB; simp [hl])]
  rcases hc with h | h | h | h | h
  · exact ⟨3, by decide, fine 3 1 0 2 rfl h (by decide)⟩
  · exact ⟨7, by decide, fine 7 2 4 6 rfl h (by decide)⟩
  · exact ⟨11, by decide, fine 11 3 7 6 rfl h (by decide)⟩
  · exact ⟨17, by decide, fine 17 4 11 2 rfl h (by decide)⟩
  · obtain ⟨A, p, rfl, hp⟩ := br.top h
    refine ⟨16, by decide, ?_⟩
    have he : endsB [4, 5] (A ++ [p, q]) = true := by have := ends_pair A p q; rwa [hp, h] at this
    rw [show (A ++ [p] ++ [q]) = A ++ [p, q] by simp]
    rw [do_fine 16 _ rfl (by unfold fitsB; simp [he]) (by unfold roomB; simp [hl])]
/-- Besides the builder, cells that it does not touch. -/
def Mk (w0 w : World) (p : Nat) (B : Bd) (K : Addr → Value → Prop) : Prop := ∃ S, Bl w p S B ∧ OkB B ∧ Mod [] w0 w ∧ (∀ x ∈ S, w0.heap.size ≤ x) ∧ ∀ a v, K a v → a.block ∉ S ∧ w.cell? a = some v
variable {w0 w : World} {p : Nat} {B : Bd} {K : Addr → Value → Prop}
theorem Mk.b (h : Mk w0 w p B K) : Mb w0 w p B := by obtain ⟨S, h1, h2, h3, h4, _⟩ := h; exact ⟨S, h1, h2, h3, h4⟩
theorem Mk.cell (h : Mk w0 w p B K) {a : Addr} {v : Value} (k : K a v) : w.cell? a = some v := by obtain ⟨S, _, _, _, _, h⟩ := h; exact (h a v k).2
theorem Mb.keep {w' : World} (h : Mb w0 w p B) (m : Mod [] w w') (hK : ∀ a v, K a v → w.heap.size ≤ a.block ∧ w'.cell? a = some v) : Mk w0 w' p B K := by
  obtain ⟨S, h1, h2, h3, h4⟩ := h
  exact ⟨S, h1.far m, h2, h3.trans m, h4, fun a v k => ⟨fun hx => by have := h1.lt _ hx; have := (hK a v k).1; omega, (hK a v k).2⟩⟩
theorem cell_lt {w : World} {a : Addr} {v : Value} (h : w.cell? a = some v) : a.block < w.heap.size := by
  by_cases hl : a.block < w.heap.size
  · exact hl
  · exfalso
    have e : w.heap[a.block]? = none := Array.getElem?_eq_none (by omega)
    unfold World.cell? at h
    simp [e] at h
theorem Mk.turn {w' : World} {S S' : List Nat} {B' : Bd} (h5 : Bl w' p S' B') (ok : OkB B') (t : Turn S S' w w') (m : Mod [] w0 w) (hS : ∀ x ∈ S, w0.heap.size ≤ x) (hK : ∀ a v, K a v → a.block ∉ S ∧ w.cell? a = some v) : Mk w0 w' p B' K := by
  obtain ⟨g1, g2⟩ := t.since m hS
  refine ⟨S', h5, ok, g1, g2, fun a v k => ⟨?_, t.1.cell (hK a v k).1 (hK a v k).2⟩⟩
  exact t.apart (U := [a.block]) (fun x hx => by rw [List.mem_singleton.1 hx]; exact cell_lt (hK a v k).2) (fun x hx => by rw [List.mem_singleton.1 hx]; exact (hK a v k).1) _ (by simp)
theorem mk_do (h : Mk w0 w p B K) (n : Int) : Calls Try.prog 15 #[Pt p, .int .i64 n] w fun e w' => e = .returned (.int .i64 (doB n B).1) ∧ Mk w0 w' p (doB n B).2 K := by
  obtain ⟨S, h1, h2, h3, h4, h7⟩ := h
  refine (do_calls h1 h2 n).mono ?_
  rintro e w' ⟨rfl, S', h5, h6⟩
  exact ⟨rfl, Mk.turn h5 (h2.does n) h6 h3 h4 h7⟩
theorem mk_put (h : Mk w0 w p B K) (x : Xi) (hx : WellX x) : Calls Try.prog 13 #[Pt p, insV x] w fun e w' => e = .returned (.int .i64 (putB x B).1) ∧ Mk w0 w' p (putB x B).2 K := by
  obtain ⟨S, h1, h2, h3, h4, h7⟩ := h
  refine (put_calls h1 h2 x).mono ?_
  rintro e w' ⟨rfl, S', h5, h6⟩
  exact ⟨rfl, Mk.turn h5 (h2.puts hx) h6 h3 h4 h7⟩
theorem mk_stay (h : Mk w0 w p B K) (hP : 0 < B.P.length) : Calls Try.prog 19 #[Pt p] w fun e w' => e = .returned (.tuple #[defV none 0 0, .int .i64 (-22)]) ∧ Mk w0 w' p B K := by
  obtain ⟨S, h1, h2, h3, h4, h5⟩ := h
  refine (end_open h1 h2 hP).mono ?_
  rintro e w' ⟨rfl, hm⟩
  exact ⟨rfl, S, h1.far hm, h2, h3.trans hm, h4, fun a v k => ⟨(h5 a v k).1, hm.cell (by simp) (h5 a v k).2⟩⟩
/-- The cells of a literal row of numbers at block r. -/
def litI (r : Nat) (l : List Int) : Addr → Value → Prop := fun a v => ∃ i x, l[i]? = some x ∧ a = ⟨r, i, none⟩ ∧ v = .int .i64 x
theorem litI.at {r : Nat} {l : List Int} {i : Nat} {x : Int} (h : l[i]? = some x) : litI r l ⟨r, i, none⟩ (.int .i64 x) := ⟨i, x, h, rfl, rfl⟩
theorem i8_in {x : Int} (h : (Lit.int .i8 x).wf = true) : -128 ≤ x ∧ x ≤ 127 := by
  simpa [Lit.wf, IntKind.min, IntKind.max, IntKind.signed, IntKind.bits] using h
theorem do_p_le (n : Int) {B : Bd} (h : OkB B) : (doB n B).2.P.length ≤ 32 := (h.does n).dep
theorem may_tells {L : List Xi} {words : Int} (h : MayP L words) {w : World} {e : Ending} {w' : World} (k : TellsM L words w e w') : e = .returned (.bool true) ∧ Mod [] w w' := by
  obtain ⟨r', rfl, h2, hm⟩ := k
  rw [h2.2 h]
  exact ⟨rfl, hm⟩
set_option maxHeartbeats 8000000 in
set_option maxRecDepth 100000 in
theorem may_walk (w : World) (a : Option Addr) (len cap : Nat) (z : List Int) (hR : RowIn .i8 w a len cap z) :
    Calls Try.prog 4 #[.slice a len cap] w fun e w' => e = .returned (.bool true) ∧ Mod [] w w' := by
  obtain ⟨q, hq⟩ : ∃ q, q = min len 60 := ⟨_, rfl⟩
  obtain ⟨l, hl, hnum⟩ := hR.nums q (by omega)
  have hc := hR.le
  have hlenI : (len : Int) ≤ 9223372036854775807 := by omega
  have HU := Lib.hid (And.intro hq (And.intro hc fun W => upto_in W 22 32 Try.underlying22 size_i8 a len cap q (by omega)))
  have HN := Lib.hid (And.intro hl (And.intro hnum (show q ≤ 60 by omega)))
  have H1 := Lib.hid (shown_calls w)
  clear hR hl hnum hc hq
  go_enter Try.func4, Try.ntmps4
  go_wp2_with fail
  refine (H1.out).mono ?_
  rintro e w1 ⟨rfl, hm1⟩
  have H2 := Lib.hid (mb_new hm1)
  clear hm1 H1
  go_wp2_with fail
  refine (H2.out).mono ?_
  rintro e w2 ⟨b, rfl, hb⟩
  have h0 := Lib.hid hb
  clear hb H2
  go_upto_region 5 with fail
  go_cut [19, 20, 21] (fun u v t wx => u = .slice a q cap ∧ v = .int .i64 (q : Int) ∧ t = .int .i64 0 ∧ wx = w2)
  case first =>
    have hu := HU.out.2.2 w2
    have h1 := HU.out.1
    by_cases h6 : len ≤ 60
    · obtain rfl : q = len := by omega
      have h6I : (q : Int) ≤ 60 := by omega
      clear h1 h6
      go_wp2_with fail
      go_meet
      case rel => exact ⟨rfl, rfl, rfl, rfl⟩
    · obtain rfl : q = 60 := by omega
      have h6I : ¬ (len : Int) ≤ 60 := by omega
      have hu : (Instr.sliceAt 22 (.slice a len cap) none (some (.int .i64 60)) none).run Try.prog w2 = .ok (.slice a 60 cap) w2 := hu
      clear h1 h6
      go_wp2_with fail
      go_meet
      case rel => exact ⟨rfl, rfl, rfl, rfl⟩
  case rest =>
  obtain ⟨rfl, rfl, rfl, rfl⟩ := hcut
  go_wp2_with fail
  have hqI : (q : Int) ≤ 60 := by have := HN.out.2.2; omega
  go_loopg [21] q (fun g z wr => ∃ i : Nat, z = .int .i64 (i : Int) ∧ i + g = q ∧ RowKit.Hid (∃ B, Mb w wr b B ∧ Inv B ∧ Br B.P ∧ B.L.length ≤ i))
  case atStart => exact ⟨0, rfl, by omega, Lib.hid ⟨_, h0.out, inv_new, br_nil, by simp⟩⟩
  case round =>
    clear h0
    obtain ⟨i, rfl, hig, hi⟩ := hrel
    obtain ⟨B, hB, hI, hBr, hBl⟩ := hi.out
    clear hi
    by_cases hlt : i < q
    · have hltI : (i : Int) < (q : Int) := by omega
      obtain ⟨x, hx⟩ : ∃ x, l[i]? = some x := ⟨_, List.getElem?_eq_getElem (by have := HN.out.1; omega)⟩
      obtain ⟨hil, hx'⟩ := List.getElem?_eq_some_iff.1 hx
      obtain ⟨ax, hax, hcx⟩ := HN.out.2.1.1 i hil
      rw [hx'] at hcx
      have hcx := hB.m.cell (by simp) hcx
      have hxb := i8_in (HN.out.2.1.2 x (List.mem_of_getElem? hx))
      subst hax
      have HK := Lib.hid (And.intro hig hBl)
      by_cases hneg : x < 0
      · have hwx : IntKind.i64.wrap x = x := by rw [IntKind.wrap_i64]; omega
        have k := mb_put hB (⟨1, 0, x⟩ : Xi) ⟨show 1 < 256 by decide, by unfold I64; simp, by unfold I64; constructor <;> simp only <;> omega⟩
        have hB2 := Lib.hid (And.intro (hI.put (x := ⟨1, 0, x⟩) ⟨Or.inl rfl, fun _ => rfl, Or.inl rfl⟩ (Or.inl rfl)) (And.intro (show Br (putB (⟨1, 0, x⟩ : Xi) B).2.P by unfold putB; split <;> exact hBr) (put_len (⟨1, 0, x⟩ : Xi) B)))
        have K1 := Lib.hid k
        clear k hB hI hBr hBl hig hx hx' hil
        go_wp2_with fail
        refine (K1.out).mono ?_
        rintro e w3 ⟨rfl, hb3⟩
        have HB3 := Lib.hid hb3
        clear hb3 K1
        go_wp2_with fail
        go_roundg (gk - 1)
        case measure => have := HK.out.1; omega
        case rel => exact ⟨i + 1, by go_num, by have := HK.out.1; omega, Lib.hid ⟨_, HB3.out, hB2.out.1, hB2.out.2.1, by have := hB2.out.2.2; have := HK.out.2; omega⟩⟩
      · obtain ⟨y, hy⟩ := Int.eq_ofNat_of_zero_le (show 0 ≤ x % 24 by omega)
        have hy2 : x.tmod 24 = (y : Int) := by rw [Int.tmod_eq_emod_of_nonneg (by omega)]; exact hy
        have hyb : (y : Int) < 24 := by omega
        have hw1 : IntKind.i8.wrap (y : Int) = (y : Int) := by simp [IntKind.wrap, IntKind.bits, IntKind.signed]; omega
        have hw2 : IntKind.i64.wrap (y : Int) = (y : Int) := by rw [IntKind.wrap_i64]; omega
        have k := mb_do hB (y : Int)
        have hB2 := Lib.hid (And.intro (hI.does (y : Int)) (And.intro (hBr.does (y : Int)) (do_len (y : Int) B)))
        have K1 := Lib.hid k
        clear k hB hI hBr hBl hig hx hx' hil
        go_wp2_with fail
        refine (K1.out).mono ?_
        rintro e w3 ⟨rfl, hb3⟩
        have HB3 := Lib.hid hb3
        clear hb3 K1
        go_wp2_with fail
        go_roundg (gk - 1)
        case measure => have := HK.out.1; omega
        case rel => exact ⟨i + 1, by go_num, by have := HK.out.1; omega, Lib.hid ⟨_, HB3.out, hB2.out.1, hB2.out.2.1, by have := hB2.out.2.2; have := HK.out.2; omega⟩⟩
    · have hltI : ¬ (i : Int) < (q : Int) := by omega
      obtain rfl : i = q := by omega
      have h0 := Lib.hid (show ∃ B, Mb w wr b B ∧ Inv B ∧ Br B.P ∧ B.L.length + B.P.length ≤ 92 ∧ B.P.length + 0 ≤ 32 from ⟨B, hB, hI, hBr, by obtain ⟨S, _, ok, _⟩ := hB; have := ok.dep; have := HN.out.2.2; omega, by obtain ⟨S, _, ok, _⟩ := hB; have := ok.dep; omega⟩)
      clear hB hI hBr hBl hig hlt HN HU
      go_wp2_with fail
      go_loopg [38] 96 (fun g z wr => ∃ r : Nat, z = .int .i64 (r : Int) ∧ r + g = 96 ∧ RowKit.Hid (∃ B, Mb w wr b B ∧ Inv B ∧ Br B.P ∧ B.L.length + B.P.length ≤ 92 ∧ B.P.length + r ≤ 32))
      case atStart => exact ⟨0, rfl, by omega, h0⟩
      case round =>
        clear h0
        obtain ⟨r, rfl, hrg, hr⟩ := hrel
        obtain ⟨B, hB, hI, hBr, hBl, hBp⟩ := hr.out
        clear hr
        have hrI : (r : Int) < 96 := by omega
        obtain ⟨d, hd⟩ : ∃ d, B.P.length = d := ⟨_, rfl⟩
        have K1 := Lib.hid (mb_open hB (d : Int) (by rw [hd]))
        by_cases h0 : d = 0
        · subst h0
          obtain ⟨L, P⟩ := B
          obtain rfl : P = [] := List.eq_nil_of_length_eq_zero hd
          have HE := Lib.hid (mb_end hB)
          have HP := Lib.hid (And.intro hBl (may_of (by simp only [List.length_nil] at hBl; omega) hI))
          clear hB hI hBr hBl hBp hrg hd
          go_wp2_with fail
          refine (K1.out).mono ?_
          rintro e w3 ⟨rfl, rfl⟩
          go_wp2_with fail
          refine (HE.out).mono ?_
          rintro e w5 ⟨A, cp, rfl, hme⟩
          obtain ⟨n, hn⟩ : ∃ n, n = (L ++ [(⟨15, 0, 0⟩ : Xi)]).length := ⟨_, rfl⟩
          rw [← hn]
          have mA := (Mod.refl [] w5).alloc (.cells #[.slice A n cp] 41)
          have hdc : (w5.alloc (.cells #[.slice A n cp] 41)).cell? ⟨w5.heap.size, 0, none⟩ = some (.slice A n cp) := by rw [World.cell?_alloc_new]; rfl
          have H8 := Lib.hid (rmay_calls (cap := cp) (hme.ins.far mA) hn (by rw [hn]; have := HP.out.1; simp at this ⊢; omega) 0)
          have HM := Lib.hid (hme.m.trans mA)
          clear hme mA hn HE K1
          go_wp2_with fail
          refine (H8.out).mono ?_
          intro e w8 k
          obtain ⟨rfl, hm8⟩ := may_tells HP.out.2 k
          have HM8 := Lib.hid (HM.out.trans hm8)
          clear hm8 k H8 hdc
          go_wp2_with fail
          go_ret
          exact ⟨by simp, HM8.out⟩
        · have hdI : ¬ (d : Int) = 0 := by omega
          have hdb : ((d : Int) == 0) = false := by simp; omega
          obtain ⟨n0, hn0, hz⟩ := some_close (by obtain ⟨S, _, ok, _⟩ := hB; exact ok) hBr (by omega) (by omega)
          have HS := Lib.hid (And.intro (And.intro hn0 hz) (And.intro hI (And.intro hBr (And.intro hBl (And.intro hBp hrg)))))
          have HB := Lib.hid hB
          clear hB hI hBr hBl hBp hrg hd hn0 hz h0
          go_wp2_with fail
          refine (K1.out).mono ?_
          rintro e w3 ⟨rfl, rfl⟩
          go_upto_region 15 with fail
          go_wp2_with fail
          obtain ⟨gO, hgO⟩ : ∃ gO, gO = gk := ⟨_, rfl⟩
          have HGO := Lib.hid hgO
          clear hgO
          obtain ⟨R, hR⟩ : ∃ R, R = wr.heap.size := ⟨_, rfl⟩
          have HR := Lib.hid hR
          rw [← hR]
          clear hR
          go_loopg [45] 6 (fun g z wx => ∃ j : Nat, z = .int .i64 (j : Int) ∧ j + g = 6 ∧ RowKit.Hid (Mk w wx b B (litI R closers) ∧ ∀ i x, i < j → closers[i]? = some x → (doB x B).1 ≠ 0))
          case atStart => exact ⟨0, rfl, by omega, Lib.hid ⟨HB.out.keep ((Mod.refl [] wr).alloc _) fun a v hk => by
            obtain ⟨i, x, hx, rfl, rfl⟩ := hk
            rw [HR.out]
            refine ⟨Nat.le_refl _, ?_⟩
            have hi : i < 6 := by have := List.getElem?_eq_some_iff.1 hx; simp [closers] at this; exact this.1
            have hc : i = 0 ∨ i = 1 ∨ i = 2 ∨ i = 3 ∨ i = 4 ∨ i = 5 := by omega
            rcases hc with rfl | rfl | rfl | rfl | rfl | rfl
            all_goals
              obtain rfl := Option.some.inj hx
              rw [World.cell?_alloc_new]
              rfl, fun i x hi => absurd hi (by omega)⟩⟩
          case round =>
            obtain ⟨j, rfl, hjg, hj⟩ := hrel
            by_cases hlt : j < 6
            · have hltI : (j : Int) < 6 := by omega
              obtain ⟨x, hx⟩ : ∃ x, closers[j]? = some x := ⟨_, List.getElem?_eq_getElem (by simp [closers]; omega)⟩
              have hcx := hj.out.1.cell (litI.at (r := R) hx)
              have hxm := List.mem_of_getElem? hx
              obtain ⟨rr, hrr⟩ : ∃ rr, (doB x B).1 = rr := ⟨_, rfl⟩
              have k := mk_do hj.out.1 x
              rw [hrr] at k
              have K2 := Lib.hid k
              by_cases hr0 : rr = 0
              · subst hr0
                have HX := Lib.hid (And.intro hrr (And.intro hxm hjg))
                clear k hx hrr hxm hj hjg hlt
                go_wp2_with fail
                refine (K2.out).mono ?_
                rintro e w4 ⟨rfl, hb4⟩
                have HB4 := Lib.hid hb4.b
                clear hb4 K2
                go_wp2_with fail
                go_roundg (gO - 1)
                case measure => have := HS.out.2.2.2.2.2; have := HGO.out; omega
                case rel =>
                  have h1 := HX.out
                  have h2 := HS.out.2
                  have h3 := close_less h1.2.1 h1.1
                  have h4 := do_len x B
                  have h5 := HGO.out
                  exact ⟨r + 1, by go_num, by omega, Lib.hid ⟨_, HB4.out, h2.1.does x, h2.2.1.does x, by omega, by omega⟩⟩
              · have hrb : (rr == 0) = false := by simp [hr0]
                have HX := Lib.hid (And.intro hrr (And.intro hx (And.intro hr0 (And.intro hjg hj.out.2))))
                clear k hx hrr hxm hj hjg hlt
                go_wp2_with fail
                refine (K2.out).mono ?_
                rintro e w4 ⟨rfl, hb4⟩
                have HB4 := Lib.hid hb4
                clear hb4 K2
                go_wp2_with fail
                go_roundg (gk - 1)
                case measure => have := HX.out.2.2.2.1; omega
                case rel =>
                  obtain ⟨h1, h2, h3, h4, h5⟩ := HX.out
                  have h6 := HB4.out
                  rw [do_same x (by rw [h1]; exact h3)] at h6
                  exact ⟨j + 1, by go_num, by omega, Lib.hid ⟨h6, fun i y hi hy => by
                    by_cases he : i < j
                    · exact h5 i y he hy
                    · obtain rfl : i = j := by omega
                      rw [h2] at hy
                      obtain rfl := Option.some.inj hy
                      rw [h1]; exact h3⟩⟩
            · exfalso
              obtain ⟨⟨hn0, hz⟩, _⟩ := HS.out
              obtain ⟨i, hi, e⟩ := List.getElem_of_mem hn0
              exact hj.out.2 i n0 (by simp [closers] at hi; omega) (by rw [← e]; exact List.getElem?_eq_getElem hi) hz
end Go.Proofs.Ytnclfopdgilgaaa
