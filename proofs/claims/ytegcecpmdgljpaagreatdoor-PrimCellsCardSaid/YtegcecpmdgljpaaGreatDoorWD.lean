/- The document's sums of real numbers: of two finite ones. Condition: the parts are of the format. -/
import Derived.Test.YtegcecpmdgljpaaGreatDoorMGY
import Derived.Test.YtegcecpmdgljpaaGreatDoorVG
namespace Go.Proofs.YtegcecpmdgljpaaGreatDoor
open Go.RowKit
set_option linter.unusedVariables false
open Ieee (double)

/-- Block b of w holds the parts of a real number, and may be written. -/
structure P4 (w : World) (b : Nat) (n : Bool) (m : Nat) (e : Int) : Prop where
  c0 : w.cell? ⟨b, 0, none⟩ = some (.int .i64 2)
  c1 : w.cell? ⟨b, 1, none⟩ = some (.bool n)
  c2 : w.cell? ⟨b, 2, none⟩ = some (.int .u64 (m : Int))
  c3 : w.cell? ⟨b, 3, none⟩ = some (.int .i64 e)
  f : ∀ i, w.frozen? ⟨b, i, none⟩ = false
  lt : b < w.heap.size
def p4 (n : Bool) (m : Nat) (e : Int) : Array Value := #[.int .i64 2, .bool n, .int .u64 (m : Int), .int .i64 e]
theorem P4.last {X : World} {n : Bool} {m : Nat} {e : Int} {t : TypeId} : P4 (X.alloc (.cells #[.int .i64 2, .bool n, .int .u64 (m : Int), .int .i64 e] t)) X.heap.size n m e := by
  have hb : (X.alloc (.cells #[.int .i64 2, .bool n, .int .u64 (m : Int), .int .i64 e] t)).heap[X.heap.size]? = some (.cells #[.int .i64 2, .bool n, .int .u64 (m : Int), .int .i64 e] t) := (MapKept.heap_alloc X _).1
  refine ⟨?_, ?_, ?_, ?_, fun i => ?_, by rw [size_alloc]; omega⟩
  · simp only [World.cell?, hb]; rfl
  · simp only [World.cell?, hb]; rfl
  · simp only [World.cell?, hb]; rfl
  · simp only [World.cell?, hb]; rfl
  · simp only [World.frozen?, hb]; simp
theorem P4.ext {w w' : World} {b : Nat} {n : Bool} {m : Nat} {e : Int} (h : P4 w b n m e) (x : Ext w w') : P4 w' b n m e :=
  ⟨ext_keeps x h.c0, ext_keeps x h.c1, ext_keeps x h.c2, ext_keeps x h.c3, fun i => (x.2 _).trans (h.f i), Nat.lt_of_lt_of_le h.lt x.1.size⟩
theorem ne_at {b c : Nat} {i j : Nat} (h : b ≠ c ∨ i ≠ j) : (⟨b, i, none⟩ : Addr) ≠ ⟨c, j, none⟩ := fun q => by
  injection q with q1 q2
  exact h.elim (fun k => k q1) (fun k => k q2)
theorem P4.other {w : World} {b c : Nat} {n : Bool} {m : Nat} {e : Int} (h : P4 w b n m e) (hc : b ≠ c) (i : Nat) (v : Value) : P4 (w.setCell ⟨c, i, none⟩ v) b n m e :=
  ⟨by rw [World.cell?_setCell_other (h := ne_at (Or.inl hc.symm))]; exact h.c0, by rw [World.cell?_setCell_other (h := ne_at (Or.inl hc.symm))]; exact h.c1, by rw [World.cell?_setCell_other (h := ne_at (Or.inl hc.symm))]; exact h.c2, by rw [World.cell?_setCell_other (h := ne_at (Or.inl hc.symm))]; exact h.c3, fun i => by rw [World.frozen?_setCell]; exact h.f i, by simpa [World.setCell] using h.lt⟩
theorem P4.setE {w : World} {b : Nat} {n : Bool} {m : Nat} {e : Int} (h : P4 w b n m e) (u : Int) : P4 (w.setCell ⟨b, 3, none⟩ (.int .i64 u)) b n m u :=
  ⟨by rw [World.cell?_setCell_other (h := ne_at (Or.inr (by decide)))]; exact h.c0, by rw [World.cell?_setCell_other (h := ne_at (Or.inr (by decide)))]; exact h.c1, by rw [World.cell?_setCell_other (h := ne_at (Or.inr (by decide)))]; exact h.c2, World.cell?_setCell_same _ _ _ (h := h.c3), fun i => by rw [World.frozen?_setCell]; exact h.f i, by simpa [World.setCell] using h.lt⟩
theorem P4.setM {w : World} {b : Nat} {n : Bool} {m : Nat} {e : Int} (h : P4 w b n m e) (u : Nat) : P4 (w.setCell ⟨b, 2, none⟩ (.int .u64 (u : Int))) b n u e :=
  ⟨by rw [World.cell?_setCell_other (h := ne_at (Or.inr (by decide)))]; exact h.c0, by rw [World.cell?_setCell_other (h := ne_at (Or.inr (by decide)))]; exact h.c1, World.cell?_setCell_same _ _ _ (h := h.c2), by rw [World.cell?_setCell_other (h := ne_at (Or.inr (by decide)))]; exact h.c3, fun i => by rw [World.frozen?_setCell]; exact h.f i, by simpa [World.setCell] using h.lt⟩
theorem P4.all {w : World} {b : Nat} {n : Bool} {m : Nat} {e : Int} (h : P4 w b n m e) (n' : Bool) (m' : Nat) (e' : Int) : P4 ((((w.setCell ⟨b, 0, none⟩ (.int .i64 2)).setCell ⟨b, 1, none⟩ (.bool n')).setCell ⟨b, 2, none⟩ (.int .u64 (m' : Int))).setCell ⟨b, 3, none⟩ (.int .i64 e')) b n' m' e' := by
  have h1 : (w.setCell ⟨b, 0, none⟩ (.int .i64 2)).cell? ⟨b, 1, none⟩ = some (.bool n) := by rw [World.cell?_setCell_other (h := ne_at (Or.inr (by decide)))]; exact h.c1
  have h2 : ((w.setCell ⟨b, 0, none⟩ (.int .i64 2)).setCell ⟨b, 1, none⟩ (.bool n')).cell? ⟨b, 2, none⟩ = some (.int .u64 (m : Int)) := by rw [World.cell?_setCell_other (h := ne_at (Or.inr (by decide))), World.cell?_setCell_other (h := ne_at (Or.inr (by decide)))]; exact h.c2
  have h3 : (((w.setCell ⟨b, 0, none⟩ (.int .i64 2)).setCell ⟨b, 1, none⟩ (.bool n')).setCell ⟨b, 2, none⟩ (.int .u64 (m' : Int))).cell? ⟨b, 3, none⟩ = some (.int .i64 e) := by rw [World.cell?_setCell_other (h := ne_at (Or.inr (by decide))), World.cell?_setCell_other (h := ne_at (Or.inr (by decide))), World.cell?_setCell_other (h := ne_at (Or.inr (by decide)))]; exact h.c3
  refine ⟨?_, ?_, ?_, World.cell?_setCell_same _ _ _ (h := h3), fun i => by simp only [World.frozen?_setCell]; exact h.f i, by simpa [World.setCell] using h.lt⟩
  · rw [World.cell?_setCell_other (h := ne_at (Or.inr (by decide))), World.cell?_setCell_other (h := ne_at (Or.inr (by decide))), World.cell?_setCell_other (h := ne_at (Or.inr (by decide)))]
    exact World.cell?_setCell_same _ _ _ (h := h.c0)
  · rw [World.cell?_setCell_other (h := ne_at (Or.inr (by decide))), World.cell?_setCell_other (h := ne_at (Or.inr (by decide)))]
    exact World.cell?_setCell_same _ _ _ (h := h1)
  · rw [World.cell?_setCell_other (h := ne_at (Or.inr (by decide)))]
    exact World.cell?_setCell_same _ _ _ (h := h2)
theorem P4.others {w : World} {b c : Nat} {n : Bool} {m : Nat} {e : Int} (h : P4 w b n m e) (hc : b ≠ c) (x0 x1 x2 x3 : Value) : P4 ((((w.setCell ⟨c, 0, none⟩ x0).setCell ⟨c, 1, none⟩ x1).setCell ⟨c, 2, none⟩ x2).setCell ⟨c, 3, none⟩ x3) b n m e :=
  (((h.other hc 0 x0).other hc 1 x1).other hc 2 x2).other hc 3 x3
theorem Ext.set8 {a b : World} (h : Ext a b) {c : Nat} (hn : a.heap.size ≤ c) (x0 x1 x2 x3 : Value) : Ext a ((((b.setCell ⟨c, 0, none⟩ x0).setCell ⟨c, 1, none⟩ x1).setCell ⟨c, 2, none⟩ x2).setCell ⟨c, 3, none⟩ x3) :=
  (((h.setCell hn x0).setCell hn x1).setCell hn x2).setCell hn x3
/-- The place in a block of parts. -/
def eAt (w : World) (A : Nat) : Int := match w.cell? ⟨A, 3, none⟩ with
  | some (.int _ x) => x
  | _ => 0
theorem P4.eAt {w : World} {b : Nat} {n : Bool} {m : Nat} {e : Int} (h : P4 w b n m e) : eAt w b = e := by unfold Go.Proofs.YtegcecpmdgljpaaGreatDoor.eAt; rw [h.c3]
theorem Own.oth1 {w : World} {b c : Nat} {x y : Value} (h : Own w b x y) (hc : b ≠ c) (i : Nat) (v : Value) : Own (w.setCell ⟨c, i, none⟩ v) b x y :=
  ⟨by rw [World.cell?_setCell_other (h := ne_at (Or.inl hc.symm))]; exact h.c0, by rw [World.cell?_setCell_other (h := ne_at (Or.inl hc.symm))]; exact h.c1, by rw [World.frozen?_setCell]; exact h.f0, by rw [World.frozen?_setCell]; exact h.f1, by simpa [World.setCell] using h.lt⟩
/-- The blocks of a sum: both parts, and both whole numbers. -/
structure Au (w0 w : World) (A B C D : Nat) (s : Bool) (m : Nat) (i : Int) (t : Bool) (n : Nat) (j : Int) (p q r u : Int) : Prop where
  a : P4 w A s m i
  b : P4 w B t n j
  c : Own w C (.int .i64 p) (.int .i64 q)
  d : Own w D (.int .i64 r) (.int .i64 u)
  x : Ext w0 w
/-- They lie apart, and are new. -/
structure Apart (w0 : World) (A B C D : Nat) : Prop where
  ab : A ≠ B
  ac : A ≠ C
  ad : A ≠ D
  bc : B ≠ C
  bd : B ≠ D
  cd : C ≠ D
  ga : w0.heap.size ≤ A
  gb : w0.heap.size ≤ B
  gc : w0.heap.size ≤ C
  gd : w0.heap.size ≤ D
section
variable {w0 w w' : World} {A B C D : Nat} {s t : Bool} {m n : Nat} {i j p q r u : Int}
theorem Au.ext (h : Au w0 w A B C D s m i t n j p q r u) (k : Ext w w') : Au w0 w' A B C D s m i t n j p q r u := ⟨h.a.ext k, h.b.ext k, h.c.ext k, h.d.ext k, h.x.trans k⟩
theorem Au.setP (h : Au w0 w A B C D s m i t n j p q r u) (z : Apart w0 A B C D) (p' q' : Int) : Au w0 ((w.setCell ⟨C, 0, none⟩ (.int .i64 p')).setCell ⟨C, 1, none⟩ (.int .i64 q')) A B C D s m i t n j p' q' r u :=
  ⟨(h.a.other z.ac 0 _).other z.ac 1 _, (h.b.other z.bc 0 _).other z.bc 1 _, h.c.set _ _, (h.d.oth1 z.cd.symm 0 _).oth1 z.cd.symm 1 _, h.x.set2 z.gc _ _⟩
theorem Au.setQ (h : Au w0 w A B C D s m i t n j p q r u) (z : Apart w0 A B C D) (r' u' : Int) : Au w0 ((w.setCell ⟨D, 0, none⟩ (.int .i64 r')).setCell ⟨D, 1, none⟩ (.int .i64 u')) A B C D s m i t n j p q r' u' :=
  ⟨(h.a.other z.ad 0 _).other z.ad 1 _, (h.b.other z.bd 0 _).other z.bd 1 _, (h.c.oth1 z.cd 0 _).oth1 z.cd 1 _, h.d.set _ _, h.x.set2 z.gd _ _⟩
theorem Au.setA (h : Au w0 w A B C D s m i t n j p q r u) (z : Apart w0 A B C D) (e : Int) : Au w0 (w.setCell ⟨A, 3, none⟩ (.int .i64 e)) A B C D s m e t n j p q r u :=
  ⟨h.a.setE e, h.b.other z.ab.symm 3 _, h.c.oth1 z.ac.symm 3 _, h.d.oth1 z.ad.symm 3 _, h.x.setCell z.ga _⟩
theorem Au.setB (h : Au w0 w A B C D s m i t n j p q r u) (z : Apart w0 A B C D) (e : Int) : Au w0 (w.setCell ⟨B, 3, none⟩ (.int .i64 e)) A B C D s m i t n e p q r u :=
  ⟨h.a.other z.ab 3 _, h.b.setE e, h.c.oth1 z.bc.symm 3 _, h.d.oth1 z.bd.symm 3 _, h.x.setCell z.gb _⟩
end
theorem lo_of (n : Nat) (h : n < 9007199254740992) : lo (n : Int) = (n : Int) ∧ hi (n : Int) = 0 := by unfold lo hi wrap64; omega
theorem twice_pow (m k : Nat) (W : World) : Calls Tryz.prog 78 #[.agg #[.int .i64 (lo ((m * 2 ^ k : Nat) : Int)), .int .i64 (hi ((m * 2 ^ k : Nat) : Int))]] W fun e w' => e = .returned (.agg #[.int .i64 (lo ((m * 2 ^ (k + 1) : Nat) : Int)), .int .i64 (hi ((m * 2 ^ (k + 1) : Nat) : Int))]) ∧ Ext W w' := by
  have := rtwice_mk ((m * 2 ^ k : Nat) : Int) W
  rw [show (2 : Int) * ((m * 2 ^ k : Nat) : Int) = ((m * 2 ^ (k + 1) : Nat) : Int) by rw [Nat.pow_succ, ← Nat.mul_assoc]; omega] at this
  exact this
theorem held_call {f : FuncId} {xs : Array Value} {v : Value} (S : World → Prop) (hS : ∀ W W', Ext W W' → S W → S W') (hc : ∀ W, Calls Tryz.prog f xs W fun e w' => e = .returned v ∧ Ext W w') : ∀ W, S W → Calls Tryz.prog f xs W fun e w' => e = .returned v ∧ S w' := fun W h =>
  (hc W).mono fun e w' ⟨e1, x⟩ => ⟨e1, hS W w' x h⟩
/-- What is done to pairs that are natural numbers. -/
def AddN (p q r u x y : Int) : Prop := ∀ W, Calls Tryz.prog 35 #[.agg #[.int .i64 p, .int .i64 q], .agg #[.int .i64 r, .int .i64 u]] W fun e w' => e = .returned (.agg #[.int .i64 x, .int .i64 y]) ∧ Ext W w'
def NegN (p q x y : Int) : Prop := ∀ W, Calls Tryz.prog 22 #[.agg #[.int .i64 p, .int .i64 q]] W fun e w' => e = .returned (.agg #[.int .i64 x, .int .i64 y]) ∧ Ext W w'
def LessN (p q r u : Int) (b : Bool) : Prop := ∀ W, Calls Tryz.prog 79 #[.agg #[.int .i64 p, .int .i64 q], .agg #[.int .i64 r, .int .i64 u]] W fun e w' => e = .returned (.bool b) ∧ Ext W w'
def RndN (s : Bool) (p q e : Int) (mo : Bool) (res : Int) : Prop := ∀ W, Calls Tryz.prog 82 #[.bool s, .agg #[.int .i64 p, .int .i64 q], .int .i64 e, .bool mo] W fun e w' => e = .returned (.int .i64 res) ∧ Ext W w'
theorem addN (P Q : Nat) (hQ : Q < 9007199254740992) : AddN (lo (P : Int)) (hi (P : Int)) (Q : Int) 0 (lo ((P + Q : Nat) : Int)) (hi ((P + Q : Nat) : Int)) := fun W => by
  have := radd_two (P : Int) (Q : Int) W
  rw [(lo_of Q hQ).1, (lo_of Q hQ).2, ← Int.natCast_add] at this
  exact this
theorem negP (P : Nat) : NegN (lo (P : Int)) (hi (P : Int)) (lo (-(P : Int))) (hi (-(P : Int))) := fun W => rneg_mk (P : Int) W
theorem negQ (Q : Nat) (hQ : Q < 9007199254740992) : NegN (Q : Int) 0 (lo (-(Q : Int))) (hi (-(Q : Int))) := fun W => by
  have := rneg_mk (Q : Int) W
  rw [(lo_of Q hQ).1, (lo_of Q hQ).2] at this
  exact this
theorem addPQ (P Q : Nat) (h : Q ≤ P) : AddN (lo (P : Int)) (hi (P : Int)) (lo (-(Q : Int))) (hi (-(Q : Int))) (lo ((P - Q : Nat) : Int)) (hi ((P - Q : Nat) : Int)) := fun W => by
  have := radd_two (P : Int) (-(Q : Int)) W
  rw [show (P : Int) + -(Q : Int) = ((P - Q : Nat) : Int) by omega] at this
  exact this
theorem addQP (P Q : Nat) (h : P ≤ Q) (hQ : Q < 9007199254740992) : AddN (Q : Int) 0 (lo (-(P : Int))) (hi (-(P : Int))) (lo ((Q - P : Nat) : Int)) (hi ((Q - P : Nat) : Int)) := fun W => by
  have := addPQ Q P h W
  rw [(lo_of Q hQ).1, (lo_of Q hQ).2] at this
  exact this
theorem lessN (P Q : Nat) (hP : P < 42535295865117307932921825928971026432) (hQ : Q < 9007199254740992) (b : Bool) (hb : decide (P < Q) = b) : LessN (lo (P : Int)) (hi (P : Int)) (Q : Int) 0 b := fun W => by
  have := ruless_low (P : Int) (by omega) (by omega) (Q : Int) (by unfold I64; omega) W
  have e : U (Q : Int) = (Q : Int) := by unfold U; omega
  rw [e, show decide ((P : Int) < (Q : Int)) = b by rw [← hb]; exact decide_eq_decide.2 (by omega)] at this
  exact this
theorem eqN (P Q : Nat) (hP : P < 42535295865117307932921825928971026432) (hQ : Q < 9007199254740992) (b : Bool) (hb : decide (P = Q) = b) : (lo (P : Int) == (Q : Int) && hi (P : Int) == 0) = b := by
  rw [← hb, Bool.eq_iff_iff]
  simp only [Bool.and_eq_true, beq_iff_eq, decide_eq_true_eq]
  unfold lo hi wrap64
  omega
section
variable {m n : Nat} {e1 e2 : Int}
theorem p11 (m : Nat) : m * 2 ^ 11 = m * 2048 := rfl
theorem far_big (hf : 64 < e1 - e2) (hm : 4503599627370496 ≤ m) : m * 2048 < m * 2 ^ (e1 - e2).toNat ∧ 9007199254740992 ≤ m * 2048 - 1 := by
  obtain ⟨a, b⟩ := farr_split hf
  rw [a, ← Nat.mul_assoc]
  have := Nat.mul_le_mul_left (m * 2 ^ 11) b
  have e : m * 2 ^ 11 = m * 2048 := rfl
  omega
theorem far_a (s : Bool) (hm : m < 9007199254740992) (h52 : 4503599627370496 ≤ m) (hf : 64 < e1 - e2) (u1 : e1 ≤ 971) (l2 : -1074 ≤ e2) : RndN s (lo ((m * 2 ^ 11 + 0 : Nat) : Int)) (hi ((m * 2 ^ 11 + 0 : Nat) : Int)) (e1 - 11) false (cellOf (addW s m e1 s 0 e2)) := fun W => by
  have e : addW s m e1 s 0 e2 = double.nearest s (m * 2 ^ 11 + 0) (e1 - 11) := by
    rw [addW_same s (by omega), Nat.add_zero, Nat.add_zero, ← farr_eqv hf s (by omega), p11]
  rw [e]
  exact rnd_exact s (m * 2 ^ 11 + 0) (by rw [p11]; omega) (e1 - 11) (by omega) W
theorem far_b (s t : Bool) (hst : s ≠ t) (hm : m < 9007199254740992) (h52 : 4503599627370496 ≤ m) (hf : 64 < e1 - e2) (u1 : e1 ≤ 971) (l2 : -1074 ≤ e2) : RndN s (lo ((m * 2 ^ 11 - 0 : Nat) : Int)) (hi ((m * 2 ^ 11 - 0 : Nat) : Int)) (e1 - 11) false (cellOf (addW s m e1 t 0 e2)) := fun W => by
  have e : addW s m e1 t 0 e2 = double.nearest s (m * 2 ^ 11 - 0) (e1 - 11) := by
    rw [addW_gt s t hst (by omega) (by have := far_big hf h52; omega), Nat.sub_zero, Nat.sub_zero, ← farr_eqv hf s (by omega), p11]
  rw [e]
  exact rnd_exact s (m * 2 ^ 11 - 0) (by rw [p11]; omega) (e1 - 11) (by omega) W
theorem far_c (s : Bool) (hm : m < 9007199254740992) (h52 : 4503599627370496 ≤ m) (hn : n < 9007199254740992) (h0 : n ≠ 0) (hf : 64 < e1 - e2) (u1 : e1 ≤ 971) (l2 : -1074 ≤ e2) : RndN s (lo ((m * 2 ^ 11 + 0 : Nat) : Int)) (hi ((m * 2 ^ 11 + 0 : Nat) : Int)) (e1 - 11) true (cellOf (addW s m e1 s n e2)) := fun W => by
  rw [addW_same s (by omega), Nat.add_zero, p11]
  exact rnd_more s true (m * 2048) (by omega) (by omega) (e1 - 11) (by omega) (N := m * 2 ^ (e1 - e2).toNat + n) (by omega) (farr_same hf hn h0) W
theorem far_d (s t : Bool) (hst : s ≠ t) (hm : m < 9007199254740992) (h52 : 4503599627370496 ≤ m) (hn : n < 9007199254740992) (h0 : n ≠ 0) (hf : 64 < e1 - e2) (u1 : e1 ≤ 971) (l2 : -1074 ≤ e2) : RndN s (lo ((m * 2 ^ 11 - 1 : Nat) : Int)) (hi ((m * 2 ^ 11 - 1 : Nat) : Int)) (e1 - 11) true (cellOf (addW s m e1 t n e2)) := fun W => by
  have hb := far_big hf h52
  rw [addW_gt s t hst (by omega) (by omega), p11]
  exact rnd_more s true (m * 2048 - 1) (by omega) hb.2 (e1 - 11) (by omega) (N := m * 2 ^ (e1 - e2).toNat - n) (by omega) (farr_diff hf hn h0 (by omega)) W
end
set_option maxHeartbeats 4000000 in
set_option maxRecDepth 100000 in
theorem radd4 (s : Bool) (m : Nat) (e1 : Int) (t : Bool) (n : Nat) (e2 : Int) (hm : m < 9007199254740992) (hn : n < 9007199254740992) (l1 : -1074 ≤ e1) (u1 : e1 ≤ 971) (l2 : -1074 ≤ e2) (u2 : e2 ≤ 971) (t1 : 4503599627370496 ≤ m ∨ e1 = -1074) (t2 : 4503599627370496 ≤ n ∨ e2 = -1074) (w : World) :
    Calls Tryz.prog 81 #[.agg #[.int .i64 2, .bool s, .int .u64 (m : Int), .int .i64 e1], .agg #[.int .i64 2, .bool t, .int .u64 (n : Int), .int .i64 e2]] w fun e w' => e = .returned (.int .i64 (cellOf (addW s m e1 t n e2))) ∧ Ext w w' := by
  have b1 : (m : Int) < 9007199254740992 := by omega
  have b2 : (n : Int) < 9007199254740992 := by omega
  have pb : P4 ((w.alloc (.cells #[.int .i64 2, .bool s, .int .u64 (m : Int), .int .i64 e1] 111)).alloc (.cells #[.int .i64 2, .bool t, .int .u64 (n : Int), .int .i64 e2] 111)) (w.heap.size + 1) t n e2 := by
    have := P4.last (X := w.alloc (.cells #[.int .i64 2, .bool s, .int .u64 (m : Int), .int .i64 e1] 111)) (n := t) (m := n) (e := e2) (t := 111)
    rw [size_alloc] at this
    exact this
  have xa : Ext (w.alloc (.cells #[.int .i64 2, .bool s, .int .u64 (m : Int), .int .i64 e1] 111)) ((w.alloc (.cells #[.int .i64 2, .bool s, .int .u64 (m : Int), .int .i64 e1] 111)).alloc (.cells #[.int .i64 2, .bool t, .int .u64 (n : Int), .int .i64 e2] 111)) := (Ext.refl _).cells _ _
  have pa := (P4.last (X := w) (n := s) (m := m) (e := e1) (t := 111)).ext xa
  have hx := ((Ext.refl w).cells #[.int .i64 2, .bool s, .int .u64 (m : Int), .int .i64 e1] 111).trans xa
  obtain ⟨W, hW⟩ : ∃ V, V = (w.alloc (.cells #[.int .i64 2, .bool s, .int .u64 (m : Int), .int .i64 e1] 111)).alloc (.cells #[.int .i64 2, .bool t, .int .u64 (n : Int), .int .i64 e2] 111) := ⟨_, rfl⟩
  rw [← hW] at pa pb hx
  obtain ⟨A, hA⟩ : ∃ A, A = w.heap.size := ⟨_, rfl⟩
  obtain ⟨B, hB⟩ : ∃ B, B = w.heap.size + 1 := ⟨_, rfl⟩
  rw [← hA] at pa
  rw [← hB] at pb
  have HX := Lib.hid hx
  have a0 := pa.c0
  have a1 := pa.c1
  have a2 := pa.c2
  have a3 := pa.c3
  have d0 := pb.c0
  have d1 := pb.c1
  have d2 := pb.c2
  have d3 := pb.c3
  have fa := pa.f
  have fb := pb.f
  have hAB : A ≠ B := by omega
  have hBA : B ≠ A := by omega
  have HP := Lib.hid (And.intro pa pb)
  obtain ⟨res, hres⟩ : ∃ r, r = cellOf (addW s m e1 t n e2) := ⟨_, rfl⟩
  rw [← hres]
  have RES := Lib.hid hres
  clear xa hx pa pb hres
  go_enter Tryz.func81, Tryz.ntmps81
  go_upto_region 1 with fail
  rw [← hW, ← hB, ← hA]
  have HSZ := Lib.hid (And.intro hA hB)
  clear hW hA hB
  by_cases hlt : e1 < e2
  · have RES2 := Lib.hid (RES.out.trans (by rw [addW_comm]))
    go_upto_region 2 with fail
    go_upto_region 3 with fail
    have q1 := (HP.out.1.all t n e2).others hAB (.int .i64 2) (.bool s) (.int .u64 (m : Int)) (.int .i64 e1)
    have q2 := (HP.out.2.others hBA (.int .i64 2) (.bool t) (.int .u64 (n : Int)) (.int .i64 e2)).all s m e1
    have q3 := (HX.out.set8 (Nat.le_of_eq HSZ.out.1.symm) (.int .i64 2) (.bool t) (.int .u64 (n : Int)) (.int .i64 e2)).set8 (c := B) (by rw [HSZ.out.2]; omega) (.int .i64 2) (.bool s) (.int .u64 (m : Int)) (.int .i64 e1)
    generalize (((((((W.setCell ⟨A, 0, none⟩ (.int .i64 2)).setCell ⟨A, 1, none⟩ (.bool t)).setCell ⟨A, 2, none⟩ (.int .u64 (n : Int))).setCell ⟨A, 3, none⟩ (.int .i64 e2)).setCell ⟨B, 0, none⟩ (.int .i64 2)).setCell ⟨B, 1, none⟩ (.bool s)).setCell ⟨B, 2, none⟩ (.int .u64 (m : Int))).setCell ⟨B, 3, none⟩ (.int .i64 e1) = V at *
    clear HP HX a0 a1 a2 a3 d0 d1 d2 d3 fa fb
    have hle : e1 ≤ e2 := by omega
    obtain ⟨C, hC⟩ : ∃ C, C = V.heap.size := ⟨_, rfl⟩
    obtain ⟨D, hD⟩ : ∃ D, D = V.heap.size + 1 := ⟨_, rfl⟩
    have ea := q1.lt
    have eb := q2.lt
    have eg := q3.1.size
    have Z : Apart w A B C D := ⟨hAB, by omega, by omega, by omega, by omega, by omega, by have := HSZ.out; omega, by have := HSZ.out; omega, by omega, by omega⟩
    have au : Au w ((V.alloc (.cells #[.int .i64 (n : Int), .int .i64 0] 44)).alloc (.cells #[.int .i64 (m : Int), .int .i64 0] 44)) A B C D t n e2 s m e1 n 0 m 0 := by
      have x1 : Ext V (V.alloc (.cells #[.int .i64 (n : Int), .int .i64 0] 44)) := (Ext.refl V).cells _ _
      have x2 : Ext (V.alloc (.cells #[.int .i64 (n : Int), .int .i64 0] 44)) ((V.alloc (.cells #[.int .i64 (n : Int), .int .i64 0] 44)).alloc (.cells #[.int .i64 (m : Int), .int .i64 0] 44)) := (Ext.refl _).cells _ _
      have od := Own.last (X := V.alloc (.cells #[.int .i64 (n : Int), .int .i64 0] 44)) (x := .int .i64 (m : Int)) (y := .int .i64 0) (t := 44)
      rw [size_alloc, ← hD] at od
      have oc := (Own.last (X := V) (x := .int .i64 (n : Int)) (y := .int .i64 0) (t := 44)).ext x2
      rw [← hC] at oc
      exact ⟨(q1.ext x1).ext x2, (q2.ext x1).ext x2, oc, od, (q3.trans x1).trans x2⟩
    have w1 : wrap64 (n : Int) = (n : Int) := by unfold wrap64; omega
    have w2 : wrap64 (m : Int) = (m : Int) := by unfold wrap64; omega
    have w3 : wrap64 (e2 - e1) = e2 - e1 := by unfold wrap64; omega
    have a0 := q1.c0
    have a1 := q1.c1
    have a2 := q1.c2
    have a3 := q1.c3
    have d0 := q2.c0
    have d1 := q2.c1
    have d2 := q2.c2
    have d3 := q2.c3
    have la := q1.lt
    have lb := q2.lt
    have fa := q1.f
    have fb := q2.f
    have HCD := Lib.hid (And.intro hC hD)
    have HZ := Lib.hid Z
    have nAC := Z.ac
    have nAD := Z.ad
    have nBC := Z.bc
    have nBD := Z.bd
    have nCD := Z.cd
    have nCA := Z.ac.symm
    have nDA := Z.ad.symm
    have nCB := Z.bc.symm
    have nDB := Z.bd.symm
    have nDC := Z.cd.symm
    clear q1 q2 q3 ea eb eg hC hD Z
    go_upto_region 4 with fail
    go_upto_region 5 with fail
    rw [← HCD.out.2, ← HCD.out.1]
    generalize (V.alloc (.cells #[.int .i64 (n : Int), .int .i64 0] 44)).alloc (.cells #[.int .i64 (m : Int), .int .i64 0] 44) = V2 at *
    have HAU := Lib.hid au
    clear au a0 a1 a2 a3 d0 d1 d2 d3 la lb fa fb w1 w2
    have a0 := HAU.out.a.c0
    have a1 := HAU.out.a.c1
    have a2 := HAU.out.a.c2
    have a3 := HAU.out.a.c3
    have fa := HAU.out.a.f
    have la := HAU.out.a.lt
    have d0 := HAU.out.b.c0
    have d1 := HAU.out.b.c1
    have d2 := HAU.out.b.c2
    have d3 := HAU.out.b.c3
    have fb := HAU.out.b.f
    have lb := HAU.out.b.lt
    have c0 := HAU.out.c.c0
    have c1 := HAU.out.c.c1
    have g0 := HAU.out.c.f0
    have g1 := HAU.out.c.f1
    have lc := HAU.out.c.lt
    have k0 := HAU.out.d.c0
    have k1 := HAU.out.d.c1
    have h0 := HAU.out.d.f0
    have h1 := HAU.out.d.f1
    have ld := HAU.out.d.lt
    by_cases hfar : 64 < e2 - e1
    · have h52 : 4503599627370496 ≤ n := by omega
      have HFR := Lib.hid (And.intro hfar h52)
      go_wp2_with fail
      have H0 := Lib.hid (show Au w V2 A B C D t n e2 s m e1 (lo ((n * 2 ^ 0 : Nat) : Int)) (hi ((n * 2 ^ 0 : Nat) : Int)) m 0 by
        rw [Nat.pow_zero, Nat.mul_one, (lo_of n (by assumption)).1, (lo_of n (by assumption)).2]
        exact HAU.out)
      clear a0 a1 a2 a3 fa la d0 d1 d2 d3 fb lb c0 c1 g0 g1 lc k0 k1 h0 h1 ld HAU w3
      go_loopw [8] (fun iv wr => ∃ (k : Nat) (E p q : Int), k ≤ 11 ∧ iv = .int .i64 (k : Int) ∧ RowKit.Hid (E = e2 - (k : Int) ∧ p = lo ((n * 2 ^ k : Nat) : Int) ∧ q = hi ((n * 2 ^ k : Nat) : Int)) ∧ RowKit.Hid (Au w wr A B C D t n E s m e1 p q m 0)) (fun iv _ => 11 - (intOf iv).toNat)
      case atStart => exact ⟨0, _, _, _, Nat.zero_le _, rfl, Lib.hid ⟨by simp, rfl, rfl⟩, H0⟩
      case round =>
        obtain ⟨k, E, p, q, hk, rfl, HE, HJ⟩ := hrel
        clear H0
        have a0 := HJ.out.a.c0
        have a1 := HJ.out.a.c1
        have a2 := HJ.out.a.c2
        have a3 := HJ.out.a.c3
        have fa := HJ.out.a.f
        have la := HJ.out.a.lt
        have d0 := HJ.out.b.c0
        have d1 := HJ.out.b.c1
        have d2 := HJ.out.b.c2
        have d3 := HJ.out.b.c3
        have fb := HJ.out.b.f
        have lb := HJ.out.b.lt
        have c0 := HJ.out.c.c0
        have c1 := HJ.out.c.c1
        have g0 := HJ.out.c.f0
        have g1 := HJ.out.c.f1
        have lc := HJ.out.c.lt
        have k0 := HJ.out.d.c0
        have k1 := HJ.out.d.c1
        have h0 := HJ.out.d.f0
        have h1 := HJ.out.d.f1
        have ld := HJ.out.d.lt
        have hk0 : (0 : Int) ≤ (k : Int) := by omega
        by_cases hlt2 : k < 11
        · have hk1 : (k : Int) < 11 := by omega
          have hE2 : wrap64 (E - 1) = E - 1 := by have := HE.out.1; unfold wrap64; omega
          have ht := fun W => twice_pow n k W
          rw [← HE.out.2.1, ← HE.out.2.2] at ht
          obtain ⟨p', hp'⟩ : ∃ x, x = lo ((n * 2 ^ (k + 1) : Nat) : Int) := ⟨_, rfl⟩
          obtain ⟨q', hq'⟩ : ∃ x, x = hi ((n * 2 ^ (k + 1) : Nat) : Int) := ⟨_, rfl⟩
          rw [← hp', ← hq'] at ht
          have HT := Lib.hid ht
          have HE2 := Lib.hid (show E - 1 = e2 - ((k + 1 : Nat) : Int) ∧ p' = lo ((n * 2 ^ (k + 1) : Nat) : Int) ∧ q' = hi ((n * 2 ^ (k + 1) : Nat) : Int) from ⟨by have := HE.out.1; omega, hp', hq'⟩)
          have hwk : wrap64 ((k : Int) + 1) = (k : Int) + 1 := by unfold wrap64; omega
          clear ht hp' hq'
          go_wp2_with fail
          refine (HT.out _).mono ?_
          rintro e w' ⟨rfl, hx1⟩
          have H2 := Lib.hid (HJ.out.ext hx1)
          clear a0 a1 a2 a3 fa la d0 d1 d2 d3 fb lb c0 c1 g0 g1 lc k0 k1 h0 h1 ld hx1 HT
          have a0 := H2.out.a.c0
          have a1 := H2.out.a.c1
          have a2 := H2.out.a.c2
          have a3 := H2.out.a.c3
          have fa := H2.out.a.f
          have la := H2.out.a.lt
          have d0 := H2.out.b.c0
          have d1 := H2.out.b.c1
          have d2 := H2.out.b.c2
          have d3 := H2.out.b.c3
          have fb := H2.out.b.f
          have lb := H2.out.b.lt
          have c0 := H2.out.c.c0
          have c1 := H2.out.c.c1
          have g0 := H2.out.c.f0
          have g1 := H2.out.c.f1
          have lc := H2.out.c.lt
          have k0 := H2.out.d.c0
          have k1 := H2.out.d.c1
          have h0 := H2.out.d.f0
          have h1 := H2.out.d.f1
          have ld := H2.out.d.lt
          go_wp2_with fail
          have H3 := (H2.out.setP HZ.out p' q').setA HZ.out (E - 1)
          go_roundw
          case rel => exact ⟨k + 1, E - 1, p', q', hlt2, by simp, HE2, Lib.hid H3⟩
          case measure => simp [intOf]; omega
        · obtain rfl : k = 11 := by omega
          have hE11 : E = e2 - 11 := by have := HE.out.1; omega
          have HPV := Lib.hid HE.out.2
          clear HE hk hk0 hlt2
          have HEE := Lib.hid hE11
          have h11a : -10000 ≤ E := by omega
          clear hE11
          by_cases n0 : m = 0
          · have hnz : ((m : Int) != 0) = false := by rw [n0]; rfl
            have H3 := (HJ.out.setQ HZ.out 0 0).setB HZ.out E
            go_wp2_with fail
            go_loopw [] (fun wr => RowKit.Hid (Au w wr A B C D t n E s m E p q 0 0)) (fun _ => 0)
            case atStart => exact Lib.hid H3
            case round =>
              have HJ2 := hrel
              clear H3 a0 a1 a2 a3 fa la d0 d1 d2 d3 fb lb c0 c1 g0 g1 lc k0 k1 h0 h1 ld hrel
              have a0 := HJ2.out.a.c0
              have a1 := HJ2.out.a.c1
              have a2 := HJ2.out.a.c2
              have a3 := HJ2.out.a.c3
              have fa := HJ2.out.a.f
              have la := HJ2.out.a.lt
              have d0 := HJ2.out.b.c0
              have d1 := HJ2.out.b.c1
              have d2 := HJ2.out.b.c2
              have d3 := HJ2.out.b.c3
              have fb := HJ2.out.b.f
              have lb := HJ2.out.b.lt
              have c0 := HJ2.out.c.c0
              have c1 := HJ2.out.c.c1
              have g0 := HJ2.out.c.f0
              have g1 := HJ2.out.c.f1
              have lc := HJ2.out.c.lt
              have k0 := HJ2.out.d.c0
              have k1 := HJ2.out.d.c1
              have h0 := HJ2.out.d.f0
              have h1 := HJ2.out.d.f1
              have ld := HJ2.out.d.lt
              have hx := HJ2.out.x
              have hres := RES2.out
              have HRS := Lib.hid hres
              have HQB := Lib.hid (show 0 < 9007199254740992 by decide)
              have HPB := Lib.hid (show n * 2 ^ 11 < 42535295865117307932921825928971026432 by rw [p11]; omega)
              have hpos : 0 < n * 2 ^ 11 := by rw [p11]; have := HFR.out.2; omega
              have HPO := Lib.hid hpos
              clear hres HJ2 hpos
              have hS : ∀ W W', Ext W W' → (fun W => (W.cell? ⟨A, 1, none⟩ = some (.bool t) ∧ W.cell? ⟨B, 1, none⟩ = some (.bool s) ∧ W.cell? ⟨A, 3, none⟩ = some (.int .i64 E) ∧ W.cell? ⟨C, 0, none⟩ = some (.int .i64 p) ∧ W.cell? ⟨C, 1, none⟩ = some (.int .i64 q) ∧ W.cell? ⟨D, 0, none⟩ = some (.int .i64 0) ∧ W.cell? ⟨D, 1, none⟩ = some (.int .i64 0)) ∧ Ext w W) W → (fun W => (W.cell? ⟨A, 1, none⟩ = some (.bool t) ∧ W.cell? ⟨B, 1, none⟩ = some (.bool s) ∧ W.cell? ⟨A, 3, none⟩ = some (.int .i64 E) ∧ W.cell? ⟨C, 0, none⟩ = some (.int .i64 p) ∧ W.cell? ⟨C, 1, none⟩ = some (.int .i64 q) ∧ W.cell? ⟨D, 0, none⟩ = some (.int .i64 0) ∧ W.cell? ⟨D, 1, none⟩ = some (.int .i64 0)) ∧ Ext w W) W' := fun W W' hx h => ⟨⟨ext_keeps hx h.1.1, ext_keeps hx h.1.2.1, ext_keeps hx h.1.2.2.1, ext_keeps hx h.1.2.2.2.1, ext_keeps hx h.1.2.2.2.2.1, ext_keeps hx h.1.2.2.2.2.2.1, ext_keeps hx h.1.2.2.2.2.2.2⟩, h.2.trans hx⟩
              by_cases hst : t = s
              · have hb : (t == s) = true := by rw [beq_iff_eq]; exact hst
                have hadd := addN (n * 2 ^ 11) (0) HQB.out
                rw [← HPV.out.1, ← HPV.out.2] at hadd
                have hrn := (show RndN t (lo ((n * 2 ^ 11 + 0 : Nat) : Int)) (hi ((n * 2 ^ 11 + 0 : Nat) : Int)) E false res by rw [HRS.out, ← hst, n0, HEE.out]; exact far_a t hn HFR.out.2 HFR.out.1 u2 l1)
                obtain ⟨x1, hx1⟩ : ∃ x, x = lo ((n * 2 ^ 11 + 0 : Nat) : Int) := ⟨_, rfl⟩
                obtain ⟨x2, hx2⟩ : ∃ x, x = hi ((n * 2 ^ 11 + 0 : Nat) : Int) := ⟨_, rfl⟩
                rw [← hx1, ← hx2] at hadd hrn
                have HA := Lib.hid (show ∀ W, (W.cell? ⟨A, 1, none⟩ = some (.bool t) ∧ W.cell? ⟨B, 1, none⟩ = some (.bool s) ∧ W.cell? ⟨A, 3, none⟩ = some (.int .i64 E) ∧ W.cell? ⟨C, 0, none⟩ = some (.int .i64 p) ∧ W.cell? ⟨C, 1, none⟩ = some (.int .i64 q) ∧ W.cell? ⟨D, 0, none⟩ = some (.int .i64 0) ∧ W.cell? ⟨D, 1, none⟩ = some (.int .i64 0)) ∧ Ext w W → Calls Tryz.prog 35 #[.agg #[.int .i64 p, .int .i64 q], .agg #[.int .i64 0, .int .i64 0]] W (fun e w' => e = .returned (.agg #[.int .i64 x1, .int .i64 x2]) ∧ ((w'.cell? ⟨A, 1, none⟩ = some (.bool t) ∧ w'.cell? ⟨B, 1, none⟩ = some (.bool s) ∧ w'.cell? ⟨A, 3, none⟩ = some (.int .i64 E) ∧ w'.cell? ⟨C, 0, none⟩ = some (.int .i64 p) ∧ w'.cell? ⟨C, 1, none⟩ = some (.int .i64 q) ∧ w'.cell? ⟨D, 0, none⟩ = some (.int .i64 0) ∧ w'.cell? ⟨D, 1, none⟩ = some (.int .i64 0)) ∧ Ext w w')) from held_call (fun W => (W.cell? ⟨A, 1, none⟩ = some (.bool t) ∧ W.cell? ⟨B, 1, none⟩ = some (.bool s) ∧ W.cell? ⟨A, 3, none⟩ = some (.int .i64 E) ∧ W.cell? ⟨C, 0, none⟩ = some (.int .i64 p) ∧ W.cell? ⟨C, 1, none⟩ = some (.int .i64 q) ∧ W.cell? ⟨D, 0, none⟩ = some (.int .i64 0) ∧ W.cell? ⟨D, 1, none⟩ = some (.int .i64 0)) ∧ Ext w W) hS hadd)
                have HR := Lib.hid (show ∀ W, (W.cell? ⟨A, 1, none⟩ = some (.bool t) ∧ W.cell? ⟨B, 1, none⟩ = some (.bool s) ∧ W.cell? ⟨A, 3, none⟩ = some (.int .i64 E) ∧ W.cell? ⟨C, 0, none⟩ = some (.int .i64 p) ∧ W.cell? ⟨C, 1, none⟩ = some (.int .i64 q) ∧ W.cell? ⟨D, 0, none⟩ = some (.int .i64 0) ∧ W.cell? ⟨D, 1, none⟩ = some (.int .i64 0)) ∧ Ext w W → Calls Tryz.prog 82 #[.bool t, .agg #[.int .i64 x1, .int .i64 x2], .int .i64 E, .bool false] W (fun e w' => e = .returned (.int .i64 res) ∧ ((w'.cell? ⟨A, 1, none⟩ = some (.bool t) ∧ w'.cell? ⟨B, 1, none⟩ = some (.bool s) ∧ w'.cell? ⟨A, 3, none⟩ = some (.int .i64 E) ∧ w'.cell? ⟨C, 0, none⟩ = some (.int .i64 p) ∧ w'.cell? ⟨C, 1, none⟩ = some (.int .i64 q) ∧ w'.cell? ⟨D, 0, none⟩ = some (.int .i64 0) ∧ w'.cell? ⟨D, 1, none⟩ = some (.int .i64 0)) ∧ Ext w w')) from held_call (fun W => (W.cell? ⟨A, 1, none⟩ = some (.bool t) ∧ W.cell? ⟨B, 1, none⟩ = some (.bool s) ∧ W.cell? ⟨A, 3, none⟩ = some (.int .i64 E) ∧ W.cell? ⟨C, 0, none⟩ = some (.int .i64 p) ∧ W.cell? ⟨C, 1, none⟩ = some (.int .i64 q) ∧ W.cell? ⟨D, 0, none⟩ = some (.int .i64 0) ∧ W.cell? ⟨D, 1, none⟩ = some (.int .i64 0)) ∧ Ext w W) hS hrn)
                clear hadd hrn hx1 hx2 hS hst
                go_wp2_with fail
                go_region_held3 (fun W => (W.cell? ⟨A, 1, none⟩ = some (.bool t) ∧ W.cell? ⟨B, 1, none⟩ = some (.bool s) ∧ W.cell? ⟨A, 3, none⟩ = some (.int .i64 E) ∧ W.cell? ⟨C, 0, none⟩ = some (.int .i64 p) ∧ W.cell? ⟨C, 1, none⟩ = some (.int .i64 q) ∧ W.cell? ⟨D, 0, none⟩ = some (.int .i64 0) ∧ W.cell? ⟨D, 1, none⟩ = some (.int .i64 0)) ∧ Ext w W) (first | exact ⟨⟨a1, d1, a3, c0, c1, k0, k1⟩, hx⟩ | exact ⟨⟨a1, d1, a3, c0, c1, k0, k1⟩, hx.drew⟩ | exact hy | assumption)
                  (first | (go_at_call 35; (with_reducible refine (HA.out _ ?_).mono ?_); assumption; rintro e w' ⟨rfl, hy⟩) | (go_at_call 82; (with_reducible refine (HR.out _ ?_).mono ?_); assumption; rintro e w' ⟨rfl, hy⟩))
                all_goals
                  go_wp2_with fail
                  go_ret
                  exact ⟨rfl, hy.2⟩
              · have hb : (t == s) = false := by rw [beq_eq_false_iff_ne]; exact hst
                by_cases hg : 0 < n * 2 ^ 11
                · have heq := eqN (n * 2 ^ 11) (0) HPB.out HQB.out false (by rw [decide_eq_false_iff_not]; omega)
                  rw [← HPV.out.1, ← HPV.out.2] at heq
                  have heq : (p == 0 && q == 0) = false := heq
                  have hle := lessN (n * 2 ^ 11) (0) HPB.out HQB.out false (by rw [decide_eq_false_iff_not]; omega)
                  have hne := negQ (0) HQB.out
                  have had := addPQ (n * 2 ^ 11) (0) (Nat.le_of_lt hg)
                  have hrn := (show RndN t (lo ((n * 2 ^ 11 - 0 : Nat) : Int)) (hi ((n * 2 ^ 11 - 0 : Nat) : Int)) E false res by rw [HRS.out, n0, HEE.out]; exact far_b t s hst hn HFR.out.2 HFR.out.1 u2 l1)
                  rw [← HPV.out.1, ← HPV.out.2] at hle had
                  obtain ⟨y1, hy1⟩ : ∃ x, x = lo (-((0 : Nat) : Int)) := ⟨_, rfl⟩
                  obtain ⟨y2, hy2⟩ : ∃ x, x = hi (-((0 : Nat) : Int)) := ⟨_, rfl⟩
                  obtain ⟨x1, hx1⟩ : ∃ x, x = lo ((n * 2 ^ 11 - 0 : Nat) : Int) := ⟨_, rfl⟩
                  obtain ⟨x2, hx2⟩ : ∃ x, x = hi ((n * 2 ^ 11 - 0 : Nat) : Int) := ⟨_, rfl⟩
                  rw [← hy1, ← hy2] at hne had
                  rw [← hx1, ← hx2] at had hrn
                  have HLE := Lib.hid hle
                  have HN := Lib.hid (show ∀ W, (W.cell? ⟨A, 1, none⟩ = some (.bool t) ∧ W.cell? ⟨B, 1, none⟩ = some (.bool s) ∧ W.cell? ⟨A, 3, none⟩ = some (.int .i64 E) ∧ W.cell? ⟨C, 0, none⟩ = some (.int .i64 p) ∧ W.cell? ⟨C, 1, none⟩ = some (.int .i64 q) ∧ W.cell? ⟨D, 0, none⟩ = some (.int .i64 0) ∧ W.cell? ⟨D, 1, none⟩ = some (.int .i64 0)) ∧ Ext w W → Calls Tryz.prog 22 #[.agg #[.int .i64 0, .int .i64 0]] W (fun e w' => e = .returned (.agg #[.int .i64 y1, .int .i64 y2]) ∧ ((w'.cell? ⟨A, 1, none⟩ = some (.bool t) ∧ w'.cell? ⟨B, 1, none⟩ = some (.bool s) ∧ w'.cell? ⟨A, 3, none⟩ = some (.int .i64 E) ∧ w'.cell? ⟨C, 0, none⟩ = some (.int .i64 p) ∧ w'.cell? ⟨C, 1, none⟩ = some (.int .i64 q) ∧ w'.cell? ⟨D, 0, none⟩ = some (.int .i64 0) ∧ w'.cell? ⟨D, 1, none⟩ = some (.int .i64 0)) ∧ Ext w w')) from held_call (fun W => (W.cell? ⟨A, 1, none⟩ = some (.bool t) ∧ W.cell? ⟨B, 1, none⟩ = some (.bool s) ∧ W.cell? ⟨A, 3, none⟩ = some (.int .i64 E) ∧ W.cell? ⟨C, 0, none⟩ = some (.int .i64 p) ∧ W.cell? ⟨C, 1, none⟩ = some (.int .i64 q) ∧ W.cell? ⟨D, 0, none⟩ = some (.int .i64 0) ∧ W.cell? ⟨D, 1, none⟩ = some (.int .i64 0)) ∧ Ext w W) hS hne)
                  have HA := Lib.hid (show ∀ W, (W.cell? ⟨A, 1, none⟩ = some (.bool t) ∧ W.cell? ⟨B, 1, none⟩ = some (.bool s) ∧ W.cell? ⟨A, 3, none⟩ = some (.int .i64 E) ∧ W.cell? ⟨C, 0, none⟩ = some (.int .i64 p) ∧ W.cell? ⟨C, 1, none⟩ = some (.int .i64 q) ∧ W.cell? ⟨D, 0, none⟩ = some (.int .i64 0) ∧ W.cell? ⟨D, 1, none⟩ = some (.int .i64 0)) ∧ Ext w W → Calls Tryz.prog 35 #[.agg #[.int .i64 p, .int .i64 q], .agg #[.int .i64 y1, .int .i64 y2]] W (fun e w' => e = .returned (.agg #[.int .i64 x1, .int .i64 x2]) ∧ ((w'.cell? ⟨A, 1, none⟩ = some (.bool t) ∧ w'.cell? ⟨B, 1, none⟩ = some (.bool s) ∧ w'.cell? ⟨A, 3, none⟩ = some (.int .i64 E) ∧ w'.cell? ⟨C, 0, none⟩ = some (.int .i64 p) ∧ w'.cell? ⟨C, 1, none⟩ = some (.int .i64 q) ∧ w'.cell? ⟨D, 0, none⟩ = some (.int .i64 0) ∧ w'.cell? ⟨D, 1, none⟩ = some (.int .i64 0)) ∧ Ext w w')) from held_call (fun W => (W.cell? ⟨A, 1, none⟩ = some (.bool t) ∧ W.cell? ⟨B, 1, none⟩ = some (.bool s) ∧ W.cell? ⟨A, 3, none⟩ = some (.int .i64 E) ∧ W.cell? ⟨C, 0, none⟩ = some (.int .i64 p) ∧ W.cell? ⟨C, 1, none⟩ = some (.int .i64 q) ∧ W.cell? ⟨D, 0, none⟩ = some (.int .i64 0) ∧ W.cell? ⟨D, 1, none⟩ = some (.int .i64 0)) ∧ Ext w W) hS had)
                  have HR := Lib.hid (show ∀ W, (W.cell? ⟨A, 1, none⟩ = some (.bool t) ∧ W.cell? ⟨B, 1, none⟩ = some (.bool s) ∧ W.cell? ⟨A, 3, none⟩ = some (.int .i64 E) ∧ W.cell? ⟨C, 0, none⟩ = some (.int .i64 p) ∧ W.cell? ⟨C, 1, none⟩ = some (.int .i64 q) ∧ W.cell? ⟨D, 0, none⟩ = some (.int .i64 0) ∧ W.cell? ⟨D, 1, none⟩ = some (.int .i64 0)) ∧ Ext w W → Calls Tryz.prog 82 #[.bool t, .agg #[.int .i64 x1, .int .i64 x2], .int .i64 E, .bool false] W (fun e w' => e = .returned (.int .i64 res) ∧ ((w'.cell? ⟨A, 1, none⟩ = some (.bool t) ∧ w'.cell? ⟨B, 1, none⟩ = some (.bool s) ∧ w'.cell? ⟨A, 3, none⟩ = some (.int .i64 E) ∧ w'.cell? ⟨C, 0, none⟩ = some (.int .i64 p) ∧ w'.cell? ⟨C, 1, none⟩ = some (.int .i64 q) ∧ w'.cell? ⟨D, 0, none⟩ = some (.int .i64 0) ∧ w'.cell? ⟨D, 1, none⟩ = some (.int .i64 0)) ∧ Ext w w')) from held_call (fun W => (W.cell? ⟨A, 1, none⟩ = some (.bool t) ∧ W.cell? ⟨B, 1, none⟩ = some (.bool s) ∧ W.cell? ⟨A, 3, none⟩ = some (.int .i64 E) ∧ W.cell? ⟨C, 0, none⟩ = some (.int .i64 p) ∧ W.cell? ⟨C, 1, none⟩ = some (.int .i64 q) ∧ W.cell? ⟨D, 0, none⟩ = some (.int .i64 0) ∧ W.cell? ⟨D, 1, none⟩ = some (.int .i64 0)) ∧ Ext w W) hS hrn)
                  clear hne had hrn hx1 hx2 hy1 hy2 hS hst hg hle
                  go_wp2_with fail
                  refine (HLE.out _).mono ?_
                  rintro e w3 ⟨rfl, hx3⟩
                  have a1 := ext_keeps hx3 a1
                  have d1 := ext_keeps hx3 d1
                  have a3 := ext_keeps hx3 a3
                  have c0 := ext_keeps hx3 c0
                  have c1 := ext_keeps hx3 c1
                  have k0 := ext_keeps hx3 k0
                  have k1 := ext_keeps hx3 k1
                  have hx := hx.trans hx3
                  clear hx3
                  go_wp2_with fail
                  go_region_held3 (fun W => (W.cell? ⟨A, 1, none⟩ = some (.bool t) ∧ W.cell? ⟨B, 1, none⟩ = some (.bool s) ∧ W.cell? ⟨A, 3, none⟩ = some (.int .i64 E) ∧ W.cell? ⟨C, 0, none⟩ = some (.int .i64 p) ∧ W.cell? ⟨C, 1, none⟩ = some (.int .i64 q) ∧ W.cell? ⟨D, 0, none⟩ = some (.int .i64 0) ∧ W.cell? ⟨D, 1, none⟩ = some (.int .i64 0)) ∧ Ext w W) (first | exact ⟨⟨a1, d1, a3, c0, c1, k0, k1⟩, hx⟩ | exact ⟨⟨a1, d1, a3, c0, c1, k0, k1⟩, hx.drew⟩ | exact hy | assumption)
                    (first | (go_at_call 22; (with_reducible refine (HN.out _ ?_).mono ?_); assumption; rintro e w' ⟨rfl, hy⟩) | (go_at_call 35; (with_reducible refine (HA.out _ ?_).mono ?_); assumption; rintro e w' ⟨rfl, hy⟩) | (go_at_call 82; (with_reducible refine (HR.out _ ?_).mono ?_); assumption; rintro e w' ⟨rfl, hy⟩))
                  all_goals
                    go_wp2_with fail
                    go_ret
                    exact ⟨rfl, hy.2⟩
                · exact absurd HPO.out hg
          · have hnz : ((m : Int) != 0) = true := by rw [bne_iff_ne]; omega
            have HN0 := Lib.hid n0
            clear n0
            by_cases hss : t = s
            · have hbn : (t != s) = false := by rw [hss]; exact bne_self_eq_false _
              have hb : (t == s) = true := by rw [beq_iff_eq]; exact hss
              have HSS := Lib.hid hss
              clear hss
              go_upto_region 12 with fail
              go_upto_region 13 with fail
              go_upto_region 14 with fail
              have HQ3 := Lib.hid (HJ.out.setQ HZ.out 0 0)
              generalize (wr.setCell ⟨D, 0, none⟩ (.int .i64 0)).setCell ⟨D, 1, none⟩ (.int .i64 0) = W3 at *
              clear a0 a1 a2 a3 fa la d0 d1 d2 d3 fb lb c0 c1 g0 g1 lc k0 k1 h0 h1 ld
              have a0 := HQ3.out.a.c0
              have a1 := HQ3.out.a.c1
              have a2 := HQ3.out.a.c2
              have a3 := HQ3.out.a.c3
              have fa := HQ3.out.a.f
              have la := HQ3.out.a.lt
              have d0 := HQ3.out.b.c0
              have d1 := HQ3.out.b.c1
              have d2 := HQ3.out.b.c2
              have d3 := HQ3.out.b.c3
              have fb := HQ3.out.b.f
              have lb := HQ3.out.b.lt
              have c0 := HQ3.out.c.c0
              have c1 := HQ3.out.c.c1
              have g0 := HQ3.out.c.f0
              have g1 := HQ3.out.c.f1
              have lc := HQ3.out.c.lt
              have k0 := HQ3.out.d.c0
              have k1 := HQ3.out.d.c1
              have h0 := HQ3.out.d.f0
              have h1 := HQ3.out.d.f1
              have ld := HQ3.out.d.lt
              have H3 := HQ3.out.setB HZ.out E
              go_wp2_with fail
              go_loopw [] (fun wr => RowKit.Hid (Au w wr A B C D t n E s m E p q 0 0)) (fun _ => 0)
              case atStart => exact Lib.hid H3
              case round =>
                have HJ2 := hrel
                clear H3 a0 a1 a2 a3 fa la d0 d1 d2 d3 fb lb c0 c1 g0 g1 lc k0 k1 h0 h1 ld hrel
                have a0 := HJ2.out.a.c0
                have a1 := HJ2.out.a.c1
                have a2 := HJ2.out.a.c2
                have a3 := HJ2.out.a.c3
                have fa := HJ2.out.a.f
                have la := HJ2.out.a.lt
                have d0 := HJ2.out.b.c0
                have d1 := HJ2.out.b.c1
                have d2 := HJ2.out.b.c2
                have d3 := HJ2.out.b.c3
                have fb := HJ2.out.b.f
                have lb := HJ2.out.b.lt
                have c0 := HJ2.out.c.c0
                have c1 := HJ2.out.c.c1
                have g0 := HJ2.out.c.f0
                have g1 := HJ2.out.c.f1
                have lc := HJ2.out.c.lt
                have k0 := HJ2.out.d.c0
                have k1 := HJ2.out.d.c1
                have h0 := HJ2.out.d.f0
                have h1 := HJ2.out.d.f1
                have ld := HJ2.out.d.lt
                have hx := HJ2.out.x
                have hres := RES2.out
                have HRS := Lib.hid hres
                have HQB := Lib.hid (show 0 < 9007199254740992 by decide)
                have HPB := Lib.hid (show n * 2 ^ 11 < 42535295865117307932921825928971026432 by rw [p11]; omega)
                have hpos : 0 < n * 2 ^ 11 := by rw [p11]; have := HFR.out.2; omega
                have HPO := Lib.hid hpos
                clear hres HJ2 hpos
                have hS : ∀ W W', Ext W W' → (fun W => (W.cell? ⟨A, 1, none⟩ = some (.bool t) ∧ W.cell? ⟨B, 1, none⟩ = some (.bool s) ∧ W.cell? ⟨A, 3, none⟩ = some (.int .i64 E) ∧ W.cell? ⟨C, 0, none⟩ = some (.int .i64 p) ∧ W.cell? ⟨C, 1, none⟩ = some (.int .i64 q) ∧ W.cell? ⟨D, 0, none⟩ = some (.int .i64 0) ∧ W.cell? ⟨D, 1, none⟩ = some (.int .i64 0)) ∧ Ext w W) W → (fun W => (W.cell? ⟨A, 1, none⟩ = some (.bool t) ∧ W.cell? ⟨B, 1, none⟩ = some (.bool s) ∧ W.cell? ⟨A, 3, none⟩ = some (.int .i64 E) ∧ W.cell? ⟨C, 0, none⟩ = some (.int .i64 p) ∧ W.cell? ⟨C, 1, none⟩ = some (.int .i64 q) ∧ W.cell? ⟨D, 0, none⟩ = some (.int .i64 0) ∧ W.cell? ⟨D, 1, none⟩ = some (.int .i64 0)) ∧ Ext w W) W' := fun W W' hx h => ⟨⟨ext_keeps hx h.1.1, ext_keeps hx h.1.2.1, ext_keeps hx h.1.2.2.1, ext_keeps hx h.1.2.2.2.1, ext_keeps hx h.1.2.2.2.2.1, ext_keeps hx h.1.2.2.2.2.2.1, ext_keeps hx h.1.2.2.2.2.2.2⟩, h.2.trans hx⟩
                by_cases hst : t = s
                · have hb : (t == s) = true := by rw [beq_iff_eq]; exact hst
                  have hadd := addN (n * 2 ^ 11) (0) HQB.out
                  rw [← HPV.out.1, ← HPV.out.2] at hadd
                  have hrn := (show RndN t (lo ((n * 2 ^ 11 + 0 : Nat) : Int)) (hi ((n * 2 ^ 11 + 0 : Nat) : Int)) E true res by rw [HRS.out, ← hst, HEE.out]; exact far_c t hn HFR.out.2 hm HN0.out HFR.out.1 u2 l1)
                  obtain ⟨x1, hx1⟩ : ∃ x, x = lo ((n * 2 ^ 11 + 0 : Nat) : Int) := ⟨_, rfl⟩
                  obtain ⟨x2, hx2⟩ : ∃ x, x = hi ((n * 2 ^ 11 + 0 : Nat) : Int) := ⟨_, rfl⟩
                  rw [← hx1, ← hx2] at hadd hrn
                  have HA := Lib.hid (show ∀ W, (W.cell? ⟨A, 1, none⟩ = some (.bool t) ∧ W.cell? ⟨B, 1, none⟩ = some (.bool s) ∧ W.cell? ⟨A, 3, none⟩ = some (.int .i64 E) ∧ W.cell? ⟨C, 0, none⟩ = some (.int .i64 p) ∧ W.cell? ⟨C, 1, none⟩ = some (.int .i64 q) ∧ W.cell? ⟨D, 0, none⟩ = some (.int .i64 0) ∧ W.cell? ⟨D, 1, none⟩ = some (.int .i64 0)) ∧ Ext w W → Calls Tryz.prog 35 #[.agg #[.int .i64 p, .int .i64 q], .agg #[.int .i64 0, .int .i64 0]] W (fun e w' => e = .returned (.agg #[.int .i64 x1, .int .i64 x2]) ∧ ((w'.cell? ⟨A, 1, none⟩ = some (.bool t) ∧ w'.cell? ⟨B, 1, none⟩ = some (.bool s) ∧ w'.cell? ⟨A, 3, none⟩ = some (.int .i64 E) ∧ w'.cell? ⟨C, 0, none⟩ = some (.int .i64 p) ∧ w'.cell? ⟨C, 1, none⟩ = some (.int .i64 q) ∧ w'.cell? ⟨D, 0, none⟩ = some (.int .i64 0) ∧ w'.cell? ⟨D, 1, none⟩ = some (.int .i64 0)) ∧ Ext w w')) from held_call (fun W => (W.cell? ⟨A, 1, none⟩ = some (.bool t) ∧ W.cell? ⟨B, 1, none⟩ = some (.bool s) ∧ W.cell? ⟨A, 3, none⟩ = some (.int .i64 E) ∧ W.cell? ⟨C, 0, none⟩ = some (.int .i64 p) ∧ W.cell? ⟨C, 1, none⟩ = some (.int .i64 q) ∧ W.cell? ⟨D, 0, none⟩ = some (.int .i64 0) ∧ W.cell? ⟨D, 1, none⟩ = some (.int .i64 0)) ∧ Ext w W) hS hadd)
                  have HR := Lib.hid (show ∀ W, (W.cell? ⟨A, 1, none⟩ = some (.bool t) ∧ W.cell? ⟨B, 1, none⟩ = some (.bool s) ∧ W.cell? ⟨A, 3, none⟩ = some (.int .i64 E) ∧ W.cell? ⟨C, 0, none⟩ = some (.int .i64 p) ∧ W.cell? ⟨C, 1, none⟩ = some (.int .i64 q) ∧ W.cell? ⟨D, 0, none⟩ = some (.int .i64 0) ∧ W.cell? ⟨D, 1, none⟩ = some (.int .i64 0)) ∧ Ext w W → Calls Tryz.prog 82 #[.bool t, .agg #[.int .i64 x1, .int .i64 x2], .int .i64 E, .bool true] W (fun e w' => e = .returned (.int .i64 res) ∧ ((w'.cell? ⟨A, 1, none⟩ = some (.bool t) ∧ w'.cell? ⟨B, 1, none⟩ = some (.bool s) ∧ w'.cell? ⟨A, 3, none⟩ = some (.int .i64 E) ∧ w'.cell? ⟨C, 0, none⟩ = some (.int .i64 p) ∧ w'.cell? ⟨C, 1, none⟩ = some (.int .i64 q) ∧ w'.cell? ⟨D, 0, none⟩ = some (.int .i64 0) ∧ w'.cell? ⟨D, 1, none⟩ = some (.int .i64 0)) ∧ Ext w w')) from held_call (fun W => (W.cell? ⟨A, 1, none⟩ = some (.bool t) ∧ W.cell? ⟨B, 1, none⟩ = some (.bool s) ∧ W.cell? ⟨A, 3, none⟩ = some (.int .i64 E) ∧ W.cell? ⟨C, 0, none⟩ = some (.int .i64 p) ∧ W.cell? ⟨C, 1, none⟩ = some (.int .i64 q) ∧ W.cell? ⟨D, 0, none⟩ = some (.int .i64 0) ∧ W.cell? ⟨D, 1, none⟩ = some (.int .i64 0)) ∧ Ext w W) hS hrn)
                  clear hadd hrn hx1 hx2 hS hst
                  go_wp2_with fail
                  go_region_held3 (fun W => (W.cell? ⟨A, 1, none⟩ = some (.bool t) ∧ W.cell? ⟨B, 1, none⟩ = some (.bool s) ∧ W.cell? ⟨A, 3, none⟩ = some (.int .i64 E) ∧ W.cell? ⟨C, 0, none⟩ = some (.int .i64 p) ∧ W.cell? ⟨C, 1, none⟩ = some (.int .i64 q) ∧ W.cell? ⟨D, 0, none⟩ = some (.int .i64 0) ∧ W.cell? ⟨D, 1, none⟩ = some (.int .i64 0)) ∧ Ext w W) (first | exact ⟨⟨a1, d1, a3, c0, c1, k0, k1⟩, hx⟩ | exact ⟨⟨a1, d1, a3, c0, c1, k0, k1⟩, hx.drew⟩ | exact hy | assumption)
                    (first | (go_at_call 35; (with_reducible refine (HA.out _ ?_).mono ?_); assumption; rintro e w' ⟨rfl, hy⟩) | (go_at_call 82; (with_reducible refine (HR.out _ ?_).mono ?_); assumption; rintro e w' ⟨rfl, hy⟩))
                  all_goals
                    go_wp2_with fail
                    go_ret
                    exact ⟨rfl, hy.2⟩
                · exact absurd HSS.out hst
            · have hbn : (t != s) = true := by rw [bne_iff_ne]; exact hss
              have hb : (t == s) = false := by rw [beq_eq_false_iff_ne]; exact hss
              have HSS := Lib.hid hss
              clear hss
              go_upto_region 12 with fail
              go_upto_region 13 with fail
              go_upto_region 14 with fail
              have HQ3 := Lib.hid (HJ.out.setQ HZ.out 0 0)
              generalize (wr.setCell ⟨D, 0, none⟩ (.int .i64 0)).setCell ⟨D, 1, none⟩ (.int .i64 0) = W3 at *
              clear a0 a1 a2 a3 fa la d0 d1 d2 d3 fb lb c0 c1 g0 g1 lc k0 k1 h0 h1 ld
              have a0 := HQ3.out.a.c0
              have a1 := HQ3.out.a.c1
              have a2 := HQ3.out.a.c2
              have a3 := HQ3.out.a.c3
              have fa := HQ3.out.a.f
              have la := HQ3.out.a.lt
              have d0 := HQ3.out.b.c0
              have d1 := HQ3.out.b.c1
              have d2 := HQ3.out.b.c2
              have d3 := HQ3.out.b.c3
              have fb := HQ3.out.b.f
              have lb := HQ3.out.b.lt
              have c0 := HQ3.out.c.c0
              have c1 := HQ3.out.c.c1
              have g0 := HQ3.out.c.f0
              have g1 := HQ3.out.c.f1
              have lc := HQ3.out.c.lt
              have k0 := HQ3.out.d.c0
              have k1 := HQ3.out.d.c1
              have h0 := HQ3.out.d.f0
              have h1 := HQ3.out.d.f1
              have ld := HQ3.out.d.lt
              have H3 := (HQ3.out.setQ HZ.out 1 0).setB HZ.out E
              go_wp2_with fail
              go_loopw [] (fun wr => RowKit.Hid (Au w wr A B C D t n E s m E p q 1 0)) (fun _ => 0)
              case atStart => exact Lib.hid H3
              case round =>
                have HJ2 := hrel
                clear H3 a0 a1 a2 a3 fa la d0 d1 d2 d3 fb lb c0 c1 g0 g1 lc k0 k1 h0 h1 ld hrel
                have a0 := HJ2.out.a.c0
                have a1 := HJ2.out.a.c1
                have a2 := HJ2.out.a.c2
                have a3 := HJ2.out.a.c3
                have fa := HJ2.out.a.f
                have la := HJ2.out.a.lt
                have d0 := HJ2.out.b.c0
                have d1 := HJ2.out.b.c1
                have d2 := HJ2.out.b.c2
                have d3 := HJ2.out.b.c3
                have fb := HJ2.out.b.f
                have lb := HJ2.out.b.lt
                have c0 := HJ2.out.c.c0
                have c1 := HJ2.out.c.c1
                have g0 := HJ2.out.c.f0
                have g1 := HJ2.out.c.f1
                have lc := HJ2.out.c.lt
                have k0 := HJ2.out.d.c0
                have k1 := HJ2.out.d.c1
                have h0 := HJ2.out.d.f0
                have h1 := HJ2.out.d.f1
                have ld := HJ2.out.d.lt
                have hx := HJ2.out.x
                have hres := RES2.out
                have HRS := Lib.hid hres
                have HQB := Lib.hid (show 1 < 9007199254740992 by decide)
                have HPB := Lib.hid (show n * 2 ^ 11 < 42535295865117307932921825928971026432 by rw [p11]; omega)
                have hpos : 1 < n * 2 ^ 11 := by rw [p11]; have := HFR.out.2; omega
                have HPO := Lib.hid hpos
                clear hres HJ2 hpos
                have hS : ∀ W W', Ext W W' → (fun W => (W.cell? ⟨A, 1, none⟩ = some (.bool t) ∧ W.cell? ⟨B, 1, none⟩ = some (.bool s) ∧ W.cell? ⟨A, 3, none⟩ = some (.int .i64 E) ∧ W.cell? ⟨C, 0, none⟩ = some (.int .i64 p) ∧ W.cell? ⟨C, 1, none⟩ = some (.int .i64 q) ∧ W.cell? ⟨D, 0, none⟩ = some (.int .i64 1) ∧ W.cell? ⟨D, 1, none⟩ = some (.int .i64 0)) ∧ Ext w W) W → (fun W => (W.cell? ⟨A, 1, none⟩ = some (.bool t) ∧ W.cell? ⟨B, 1, none⟩ = some (.bool s) ∧ W.cell? ⟨A, 3, none⟩ = some (.int .i64 E) ∧ W.cell? ⟨C, 0, none⟩ = some (.int .i64 p) ∧ W.cell? ⟨C, 1, none⟩ = some (.int .i64 q) ∧ W.cell? ⟨D, 0, none⟩ = some (.int .i64 1) ∧ W.cell? ⟨D, 1, none⟩ = some (.int .i64 0)) ∧ Ext w W) W' := fun W W' hx h => ⟨⟨ext_keeps hx h.1.1, ext_keeps hx h.1.2.1, ext_keeps hx h.1.2.2.1, ext_keeps hx h.1.2.2.2.1, ext_keeps hx h.1.2.2.2.2.1, ext_keeps hx h.1.2.2.2.2.2.1, ext_keeps hx h.1.2.2.2.2.2.2⟩, h.2.trans hx⟩
                by_cases hst : t = s
                · exact absurd hst HSS.out
                · have hb : (t == s) = false := by rw [beq_eq_false_iff_ne]; exact hst
                  by_cases hg : 1 < n * 2 ^ 11
                  · have heq := eqN (n * 2 ^ 11) (1) HPB.out HQB.out false (by rw [decide_eq_false_iff_not]; omega)
                    rw [← HPV.out.1, ← HPV.out.2] at heq
                    have heq : (p == 1 && q == 0) = false := heq
                    have hle := lessN (n * 2 ^ 11) (1) HPB.out HQB.out false (by rw [decide_eq_false_iff_not]; omega)
                    have hne := negQ (1) HQB.out
                    have had := addPQ (n * 2 ^ 11) (1) (Nat.le_of_lt hg)
                    have hrn := (show RndN t (lo ((n * 2 ^ 11 - 1 : Nat) : Int)) (hi ((n * 2 ^ 11 - 1 : Nat) : Int)) E true res by rw [HRS.out, HEE.out]; exact far_d t s hst hn HFR.out.2 hm HN0.out HFR.out.1 u2 l1)
                    rw [← HPV.out.1, ← HPV.out.2] at hle had
                    obtain ⟨y1, hy1⟩ : ∃ x, x = lo (-((1 : Nat) : Int)) := ⟨_, rfl⟩
                    obtain ⟨y2, hy2⟩ : ∃ x, x = hi (-((1 : Nat) : Int)) := ⟨_, rfl⟩
                    obtain ⟨x1, hx1⟩ : ∃ x, x = lo ((n * 2 ^ 11 - 1 : Nat) : Int) := ⟨_, rfl⟩
                    obtain ⟨x2, hx2⟩ : ∃ x, x = hi ((n * 2 ^ 11 - 1 : Nat) : Int) := ⟨_, rfl⟩
                    rw [← hy1, ← hy2] at hne had
                    rw [← hx1, ← hx2] at had hrn
                    have HLE := Lib.hid hle
                    have HN := Lib.hid (show ∀ W, (W.cell? ⟨A, 1, none⟩ = some (.bool t) ∧ W.cell? ⟨B, 1, none⟩ = some (.bool s) ∧ W.cell? ⟨A, 3, none⟩ = some (.int .i64 E) ∧ W.cell? ⟨C, 0, none⟩ = some (.int .i64 p) ∧ W.cell? ⟨C, 1, none⟩ = some (.int .i64 q) ∧ W.cell? ⟨D, 0, none⟩ = some (.int .i64 1) ∧ W.cell? ⟨D, 1, none⟩ = some (.int .i64 0)) ∧ Ext w W → Calls Tryz.prog 22 #[.agg #[.int .i64 1, .int .i64 0]] W (fun e w' => e = .returned (.agg #[.int .i64 y1, .int .i64 y2]) ∧ ((w'.cell? ⟨A, 1, none⟩ = some (.bool t) ∧ w'.cell? ⟨B, 1, none⟩ = some (.bool s) ∧ w'.cell? ⟨A, 3, none⟩ = some (.int .i64 E) ∧ w'.cell? ⟨C, 0, none⟩ = some (.int .i64 p) ∧ w'.cell? ⟨C, 1, none⟩ = some (.int .i64 q) ∧ w'.cell? ⟨D, 0, none⟩ = some (.int .i64 1) ∧ w'.cell? ⟨D, 1, none⟩ = some (.int .i64 0)) ∧ Ext w w')) from held_call (fun W => (W.cell? ⟨A, 1, none⟩ = some (.bool t) ∧ W.cell? ⟨B, 1, none⟩ = some (.bool s) ∧ W.cell? ⟨A, 3, none⟩ = some (.int .i64 E) ∧ W.cell? ⟨C, 0, none⟩ = some (.int .i64 p) ∧ W.cell? ⟨C, 1, none⟩ = some (.int .i64 q) ∧ W.cell? ⟨D, 0, none⟩ = some (.int .i64 1) ∧ W.cell? ⟨D, 1, none⟩ = some (.int .i64 0)) ∧ Ext w W) hS hne)
                    have HA := Lib.hid (show ∀ W, (W.cell? ⟨A, 1, none⟩ = some (.bool t) ∧ W.cell? ⟨B, 1, none⟩ = some (.bool s) ∧ W.cell? ⟨A, 3, none⟩ = some (.int .i64 E) ∧ W.cell? ⟨C, 0, none⟩ = some (.int .i64 p) ∧ W.cell? ⟨C, 1, none⟩ = some (.int .i64 q) ∧ W.cell? ⟨D, 0, none⟩ = some (.int .i64 1) ∧ W.cell? ⟨D, 1, none⟩ = some (.int .i64 0)) ∧ Ext w W → Calls Tryz.prog 35 #[.agg #[.int .i64 p, .int .i64 q], .agg #[.int .i64 y1, .int .i64 y2]] W (fun e w' => e = .returned (.agg #[.int .i64 x1, .int .i64 x2]) ∧ ((w'.cell? ⟨A, 1, none⟩ = some (.bool t) ∧ w'.cell? ⟨B, 1, none⟩ = some (.bool s) ∧ w'.cell? ⟨A, 3, none⟩ = some (.int .i64 E) ∧ w'.cell? ⟨C, 0, none⟩ = some (.int .i64 p) ∧ w'.cell? ⟨C, 1, none⟩ = some (.int .i64 q) ∧ w'.cell? ⟨D, 0, none⟩ = some (.int .i64 1) ∧ w'.cell? ⟨D, 1, none⟩ = some (.int .i64 0)) ∧ Ext w w')) from held_call (fun W => (W.cell? ⟨A, 1, none⟩ = some (.bool t) ∧ W.cell? ⟨B, 1, none⟩ = some (.bool s) ∧ W.cell? ⟨A, 3, none⟩ = some (.int .i64 E) ∧ W.cell? ⟨C, 0, none⟩ = some (.int .i64 p) ∧ W.cell? ⟨C, 1, none⟩ = some (.int .i64 q) ∧ W.cell? ⟨D, 0, none⟩ = some (.int .i64 1) ∧ W.cell? ⟨D, 1, none⟩ = some (.int .i64 0)) ∧ Ext w W) hS had)
                    have HR := Lib.hid (show ∀ W, (W.cell? ⟨A, 1, none⟩ = some (.bool t) ∧ W.cell? ⟨B, 1, none⟩ = some (.bool s) ∧ W.cell? ⟨A, 3, none⟩ = some (.int .i64 E) ∧ W.cell? ⟨C, 0, none⟩ = some (.int .i64 p) ∧ W.cell? ⟨C, 1, none⟩ = some (.int .i64 q) ∧ W.cell? ⟨D, 0, none⟩ = some (.int .i64 1) ∧ W.cell? ⟨D, 1, none⟩ = some (.int .i64 0)) ∧ Ext w W → Calls Tryz.prog 82 #[.bool t, .agg #[.int .i64 x1, .int .i64 x2], .int .i64 E, .bool true] W (fun e w' => e = .returned (.int .i64 res) ∧ ((w'.cell? ⟨A, 1, none⟩ = some (.bool t) ∧ w'.cell? ⟨B, 1, none⟩ = some (.bool s) ∧ w'.cell? ⟨A, 3, none⟩ = some (.int .i64 E) ∧ w'.cell? ⟨C, 0, none⟩ = some (.int .i64 p) ∧ w'.cell? ⟨C, 1, none⟩ = some (.int .i64 q) ∧ w'.cell? ⟨D, 0, none⟩ = some (.int .i64 1) ∧ w'.cell? ⟨D, 1, none⟩ = some (.int .i64 0)) ∧ Ext w w')) from held_call (fun W => (W.cell? ⟨A, 1, none⟩ = some (.bool t) ∧ W.cell? ⟨B, 1, none⟩ = some (.bool s) ∧ W.cell? ⟨A, 3, none⟩ = some (.int .i64 E) ∧ W.cell? ⟨C, 0, none⟩ = some (.int .i64 p) ∧ W.cell? ⟨C, 1, none⟩ = some (.int .i64 q) ∧ W.cell? ⟨D, 0, none⟩ = some (.int .i64 1) ∧ W.cell? ⟨D, 1, none⟩ = some (.int .i64 0)) ∧ Ext w W) hS hrn)
                    clear hne had hrn hx1 hx2 hy1 hy2 hS hst hg hle
                    go_wp2_with fail
                    refine (HLE.out _).mono ?_
                    rintro e w3 ⟨rfl, hx3⟩
                    have a1 := ext_keeps hx3 a1
                    have d1 := ext_keeps hx3 d1
                    have a3 := ext_keeps hx3 a3
                    have c0 := ext_keeps hx3 c0
                    have c1 := ext_keeps hx3 c1
                    have k0 := ext_keeps hx3 k0
                    have k1 := ext_keeps hx3 k1
                    have hx := hx.trans hx3
                    clear hx3
                    go_wp2_with fail
                    go_region_held3 (fun W => (W.cell? ⟨A, 1, none⟩ = some (.bool t) ∧ W.cell? ⟨B, 1, none⟩ = some (.bool s) ∧ W.cell? ⟨A, 3, none⟩ = some (.int .i64 E) ∧ W.cell? ⟨C, 0, none⟩ = some (.int .i64 p) ∧ W.cell? ⟨C, 1, none⟩ = some (.int .i64 q) ∧ W.cell? ⟨D, 0, none⟩ = some (.int .i64 1) ∧ W.cell? ⟨D, 1, none⟩ = some (.int .i64 0)) ∧ Ext w W) (first | exact ⟨⟨a1, d1, a3, c0, c1, k0, k1⟩, hx⟩ | exact ⟨⟨a1, d1, a3, c0, c1, k0, k1⟩, hx.drew⟩ | exact hy | assumption)
                      (first | (go_at_call 22; (with_reducible refine (HN.out _ ?_).mono ?_); assumption; rintro e w' ⟨rfl, hy⟩) | (go_at_call 35; (with_reducible refine (HA.out _ ?_).mono ?_); assumption; rintro e w' ⟨rfl, hy⟩) | (go_at_call 82; (with_reducible refine (HR.out _ ?_).mono ?_); assumption; rintro e w' ⟨rfl, hy⟩))
                    all_goals
                      go_wp2_with fail
                      go_ret
                      exact ⟨rfl, hy.2⟩
                  · exact absurd HPO.out hg
    · obtain ⟨d, hd⟩ : ∃ d : Nat, e2 - e1 = (d : Int) := ⟨(e2 - e1).toNat, by omega⟩
      have HDN := Lib.hid (And.intro hd (And.intro (show (e2 - e1).toNat = d by omega) (show d ≤ 64 by omega)))
      clear hd
      go_wp2_with fail
      have H0 := Lib.hid (show Au w V2 A B C D t n e2 s m e1 (lo ((n * 2 ^ 0 : Nat) : Int)) (hi ((n * 2 ^ 0 : Nat) : Int)) m 0 by
        rw [Nat.pow_zero, Nat.mul_one, (lo_of n (by assumption)).1, (lo_of n (by assumption)).2]
        exact HAU.out)
      clear a0 a1 a2 a3 fa la d0 d1 d2 d3 fb lb c0 c1 g0 g1 lc k0 k1 h0 h1 ld HAU w3
      go_loopw [] (fun wr => ∃ (k : Nat) (E p q : Int), k ≤ d ∧ RowKit.Hid (E = e2 - (k : Int) ∧ p = lo ((n * 2 ^ k : Nat) : Int) ∧ q = hi ((n * 2 ^ k : Nat) : Int)) ∧ RowKit.Hid (Au w wr A B C D t n E s m e1 p q m 0)) (fun wr => (eAt wr A + 2000).toNat)
      case atStart => exact ⟨0, _, _, _, Nat.zero_le _, Lib.hid ⟨by simp, rfl, rfl⟩, H0⟩
      case round =>
        obtain ⟨k, E, p, q, hk, HE, HJ⟩ := hrel
        clear H0
        have a0 := HJ.out.a.c0
        have a1 := HJ.out.a.c1
        have a2 := HJ.out.a.c2
        have a3 := HJ.out.a.c3
        have fa := HJ.out.a.f
        have la := HJ.out.a.lt
        have d0 := HJ.out.b.c0
        have d1 := HJ.out.b.c1
        have d2 := HJ.out.b.c2
        have d3 := HJ.out.b.c3
        have fb := HJ.out.b.f
        have lb := HJ.out.b.lt
        have c0 := HJ.out.c.c0
        have c1 := HJ.out.c.c1
        have g0 := HJ.out.c.f0
        have g1 := HJ.out.c.f1
        have lc := HJ.out.c.lt
        have k0 := HJ.out.d.c0
        have k1 := HJ.out.d.c1
        have h0 := HJ.out.d.f0
        have h1 := HJ.out.d.f1
        have ld := HJ.out.d.lt
        by_cases hlt2 : k < d
        · have hE1 : e1 < E := by have := HE.out.1; have := HDN.out.1; omega
          have hE2 : wrap64 (E - 1) = E - 1 := by have := HE.out.1; have := HDN.out; unfold wrap64; omega
          have ht := fun W => twice_pow n k W
          rw [← HE.out.2.1, ← HE.out.2.2] at ht
          obtain ⟨p', hp'⟩ : ∃ x, x = lo ((n * 2 ^ (k + 1) : Nat) : Int) := ⟨_, rfl⟩
          obtain ⟨q', hq'⟩ : ∃ x, x = hi ((n * 2 ^ (k + 1) : Nat) : Int) := ⟨_, rfl⟩
          rw [← hp', ← hq'] at ht
          have HT := Lib.hid ht
          have HE2 := Lib.hid (show E - 1 = e2 - ((k + 1 : Nat) : Int) ∧ p' = lo ((n * 2 ^ (k + 1) : Nat) : Int) ∧ q' = hi ((n * 2 ^ (k + 1) : Nat) : Int) from ⟨by have := HE.out.1; omega, hp', hq'⟩)
          have hEA := HJ.out.a.eAt
          have hElo : -1074 ≤ E := by have := HE.out.1; have := HDN.out.1; omega
          clear ht hp' hq'
          go_wp2_with fail
          refine (HT.out _).mono ?_
          rintro e w' ⟨rfl, hx1⟩
          have H2 := Lib.hid (HJ.out.ext hx1)
          clear a0 a1 a2 a3 fa la d0 d1 d2 d3 fb lb c0 c1 g0 g1 lc k0 k1 h0 h1 ld hx1 HT
          have a0 := H2.out.a.c0
          have a1 := H2.out.a.c1
          have a2 := H2.out.a.c2
          have a3 := H2.out.a.c3
          have fa := H2.out.a.f
          have la := H2.out.a.lt
          have d0 := H2.out.b.c0
          have d1 := H2.out.b.c1
          have d2 := H2.out.b.c2
          have d3 := H2.out.b.c3
          have fb := H2.out.b.f
          have lb := H2.out.b.lt
          have c0 := H2.out.c.c0
          have c1 := H2.out.c.c1
          have g0 := H2.out.c.f0
          have g1 := H2.out.c.f1
          have lc := H2.out.c.lt
          have k0 := H2.out.d.c0
          have k1 := H2.out.d.c1
          have h0 := H2.out.d.f0
          have h1 := H2.out.d.f1
          have ld := H2.out.d.lt
          go_wp2_with fail
          have H3 := (H2.out.setP HZ.out p' q').setA HZ.out (E - 1)
          go_roundw
          case rel => exact ⟨k + 1, E - 1, p', q', hlt2, HE2, Lib.hid H3⟩
          case measure =>
            rw [H3.a.eAt, hEA]
            omega
        · obtain rfl : k = d := by omega
          have hEj : e1 = E := by have := HE.out.1; have := HDN.out.1; omega
          subst hEj
          have HPV := Lib.hid HE.out.2
          have HQB := Lib.hid (show m < 9007199254740992 by assumption)
          have HPB := Lib.hid (show n * 2 ^ k < 42535295865117307932921825928971026432 by
            have h2 := Nat.pow_le_pow_right (show 0 < 2 by decide) HDN.out.2.2
            have h3 : n * 2 ^ k ≤ 9007199254740992 * 2 ^ 64 := Nat.mul_le_mul (by omega) h2
            exact Nat.lt_of_le_of_lt h3 (by decide))
          have hx := HJ.out.x
          have hres := RES2.out
          have hplace : -10000 ≤ e1 ∧ e1 ≤ 10000 := by omega
          have HPL := Lib.hid hplace
          have HLE0 := Lib.hid (show e1 ≤ e2 by assumption)
          have HRS := Lib.hid hres
          clear hres hplace HJ hlt2
          have hS : ∀ W W', Ext W W' → (fun W => (W.cell? ⟨A, 1, none⟩ = some (.bool t) ∧ W.cell? ⟨B, 1, none⟩ = some (.bool s) ∧ W.cell? ⟨A, 3, none⟩ = some (.int .i64 e1) ∧ W.cell? ⟨C, 0, none⟩ = some (.int .i64 p) ∧ W.cell? ⟨C, 1, none⟩ = some (.int .i64 q) ∧ W.cell? ⟨D, 0, none⟩ = some (.int .i64 (m : Int)) ∧ W.cell? ⟨D, 1, none⟩ = some (.int .i64 0)) ∧ Ext w W) W → (fun W => (W.cell? ⟨A, 1, none⟩ = some (.bool t) ∧ W.cell? ⟨B, 1, none⟩ = some (.bool s) ∧ W.cell? ⟨A, 3, none⟩ = some (.int .i64 e1) ∧ W.cell? ⟨C, 0, none⟩ = some (.int .i64 p) ∧ W.cell? ⟨C, 1, none⟩ = some (.int .i64 q) ∧ W.cell? ⟨D, 0, none⟩ = some (.int .i64 (m : Int)) ∧ W.cell? ⟨D, 1, none⟩ = some (.int .i64 0)) ∧ Ext w W) W' := fun W W' hx h => ⟨⟨ext_keeps hx h.1.1, ext_keeps hx h.1.2.1, ext_keeps hx h.1.2.2.1, ext_keeps hx h.1.2.2.2.1, ext_keeps hx h.1.2.2.2.2.1, ext_keeps hx h.1.2.2.2.2.2.1, ext_keeps hx h.1.2.2.2.2.2.2⟩, h.2.trans hx⟩
          by_cases hst : t = s
          · have hb : (t == s) = true := by rw [beq_iff_eq]; exact hst
            have hadd := addN (n * 2 ^ k) (m) HQB.out
            rw [← HPV.out.1, ← HPV.out.2] at hadd
            have hrn := (fun W => by have := rnd_exact t (n * 2 ^ k + m) (by have := HPB.out; have := HQB.out; have h2 := Nat.pow_le_pow_right (show 0 < 2 by decide) HDN.out.2.2; have h3 : n * 2 ^ k ≤ 9007199254740992 * 2 ^ 64 := Nat.mul_le_mul (by omega) h2; omega) e1 HPL.out W; rw [HRS.out, ← hst, addW_same t HLE0.out, HDN.out.2.1]; exact this : RndN t (lo ((n * 2 ^ k + m : Nat) : Int)) (hi ((n * 2 ^ k + m : Nat) : Int)) e1 false res)
            obtain ⟨x1, hx1⟩ : ∃ x, x = lo ((n * 2 ^ k + m : Nat) : Int) := ⟨_, rfl⟩
            obtain ⟨x2, hx2⟩ : ∃ x, x = hi ((n * 2 ^ k + m : Nat) : Int) := ⟨_, rfl⟩
            rw [← hx1, ← hx2] at hadd hrn
            have HA := Lib.hid (show ∀ W, (W.cell? ⟨A, 1, none⟩ = some (.bool t) ∧ W.cell? ⟨B, 1, none⟩ = some (.bool s) ∧ W.cell? ⟨A, 3, none⟩ = some (.int .i64 e1) ∧ W.cell? ⟨C, 0, none⟩ = some (.int .i64 p) ∧ W.cell? ⟨C, 1, none⟩ = some (.int .i64 q) ∧ W.cell? ⟨D, 0, none⟩ = some (.int .i64 (m : Int)) ∧ W.cell? ⟨D, 1, none⟩ = some (.int .i64 0)) ∧ Ext w W → Calls Tryz.prog 35 #[.agg #[.int .i64 p, .int .i64 q], .agg #[.int .i64 (m : Int), .int .i64 0]] W (fun e w' => e = .returned (.agg #[.int .i64 x1, .int .i64 x2]) ∧ ((w'.cell? ⟨A, 1, none⟩ = some (.bool t) ∧ w'.cell? ⟨B, 1, none⟩ = some (.bool s) ∧ w'.cell? ⟨A, 3, none⟩ = some (.int .i64 e1) ∧ w'.cell? ⟨C, 0, none⟩ = some (.int .i64 p) ∧ w'.cell? ⟨C, 1, none⟩ = some (.int .i64 q) ∧ w'.cell? ⟨D, 0, none⟩ = some (.int .i64 (m : Int)) ∧ w'.cell? ⟨D, 1, none⟩ = some (.int .i64 0)) ∧ Ext w w')) from held_call (fun W => (W.cell? ⟨A, 1, none⟩ = some (.bool t) ∧ W.cell? ⟨B, 1, none⟩ = some (.bool s) ∧ W.cell? ⟨A, 3, none⟩ = some (.int .i64 e1) ∧ W.cell? ⟨C, 0, none⟩ = some (.int .i64 p) ∧ W.cell? ⟨C, 1, none⟩ = some (.int .i64 q) ∧ W.cell? ⟨D, 0, none⟩ = some (.int .i64 (m : Int)) ∧ W.cell? ⟨D, 1, none⟩ = some (.int .i64 0)) ∧ Ext w W) hS hadd)
            have HR := Lib.hid (show ∀ W, (W.cell? ⟨A, 1, none⟩ = some (.bool t) ∧ W.cell? ⟨B, 1, none⟩ = some (.bool s) ∧ W.cell? ⟨A, 3, none⟩ = some (.int .i64 e1) ∧ W.cell? ⟨C, 0, none⟩ = some (.int .i64 p) ∧ W.cell? ⟨C, 1, none⟩ = some (.int .i64 q) ∧ W.cell? ⟨D, 0, none⟩ = some (.int .i64 (m : Int)) ∧ W.cell? ⟨D, 1, none⟩ = some (.int .i64 0)) ∧ Ext w W → Calls Tryz.prog 82 #[.bool t, .agg #[.int .i64 x1, .int .i64 x2], .int .i64 e1, .bool false] W (fun e w' => e = .returned (.int .i64 res) ∧ ((w'.cell? ⟨A, 1, none⟩ = some (.bool t) ∧ w'.cell? ⟨B, 1, none⟩ = some (.bool s) ∧ w'.cell? ⟨A, 3, none⟩ = some (.int .i64 e1) ∧ w'.cell? ⟨C, 0, none⟩ = some (.int .i64 p) ∧ w'.cell? ⟨C, 1, none⟩ = some (.int .i64 q) ∧ w'.cell? ⟨D, 0, none⟩ = some (.int .i64 (m : Int)) ∧ w'.cell? ⟨D, 1, none⟩ = some (.int .i64 0)) ∧ Ext w w')) from held_call (fun W => (W.cell? ⟨A, 1, none⟩ = some (.bool t) ∧ W.cell? ⟨B, 1, none⟩ = some (.bool s) ∧ W.cell? ⟨A, 3, none⟩ = some (.int .i64 e1) ∧ W.cell? ⟨C, 0, none⟩ = some (.int .i64 p) ∧ W.cell? ⟨C, 1, none⟩ = some (.int .i64 q) ∧ W.cell? ⟨D, 0, none⟩ = some (.int .i64 (m : Int)) ∧ W.cell? ⟨D, 1, none⟩ = some (.int .i64 0)) ∧ Ext w W) hS hrn)
            clear hadd hrn hx1 hx2 hS hst
            go_wp2_with fail
            go_region_held3 (fun W => (W.cell? ⟨A, 1, none⟩ = some (.bool t) ∧ W.cell? ⟨B, 1, none⟩ = some (.bool s) ∧ W.cell? ⟨A, 3, none⟩ = some (.int .i64 e1) ∧ W.cell? ⟨C, 0, none⟩ = some (.int .i64 p) ∧ W.cell? ⟨C, 1, none⟩ = some (.int .i64 q) ∧ W.cell? ⟨D, 0, none⟩ = some (.int .i64 (m : Int)) ∧ W.cell? ⟨D, 1, none⟩ = some (.int .i64 0)) ∧ Ext w W) (first | exact ⟨⟨a1, d1, a3, c0, c1, k0, k1⟩, hx⟩ | exact ⟨⟨a1, d1, a3, c0, c1, k0, k1⟩, hx.drew⟩ | exact hy | assumption)
              (first | (go_at_call 35; (with_reducible refine (HA.out _ ?_).mono ?_); assumption; rintro e w' ⟨rfl, hy⟩) | (go_at_call 82; (with_reducible refine (HR.out _ ?_).mono ?_); assumption; rintro e w' ⟨rfl, hy⟩))
            all_goals
              go_wp2_with fail
              go_ret
              exact ⟨rfl, hy.2⟩
          · have hb : (t == s) = false := by rw [beq_eq_false_iff_ne]; exact hst
            by_cases hg : m < n * 2 ^ k
            · have heq := eqN (n * 2 ^ k) (m) HPB.out HQB.out false (by rw [decide_eq_false_iff_not]; omega)
              rw [← HPV.out.1, ← HPV.out.2] at heq
              have heq : (p == (m : Int) && q == 0) = false := heq
              have hle := lessN (n * 2 ^ k) (m) HPB.out HQB.out false (by rw [decide_eq_false_iff_not]; omega)
              have hne := negQ (m) HQB.out
              have had := addPQ (n * 2 ^ k) (m) (Nat.le_of_lt hg)
              have hrn := (fun W => by have := rnd_exact t (n * 2 ^ k - m) (by have := HPB.out; omega) e1 HPL.out W; rw [HRS.out, addW_gt t s hst HLE0.out (by rw [HDN.out.2.1]; exact hg), HDN.out.2.1]; exact this : RndN t (lo ((n * 2 ^ k - m : Nat) : Int)) (hi ((n * 2 ^ k - m : Nat) : Int)) e1 false res)
              rw [← HPV.out.1, ← HPV.out.2] at hle had
              obtain ⟨y1, hy1⟩ : ∃ x, x = lo (-((m : Nat) : Int)) := ⟨_, rfl⟩
              obtain ⟨y2, hy2⟩ : ∃ x, x = hi (-((m : Nat) : Int)) := ⟨_, rfl⟩
              obtain ⟨x1, hx1⟩ : ∃ x, x = lo ((n * 2 ^ k - m : Nat) : Int) := ⟨_, rfl⟩
              obtain ⟨x2, hx2⟩ : ∃ x, x = hi ((n * 2 ^ k - m : Nat) : Int) := ⟨_, rfl⟩
              rw [← hy1, ← hy2] at hne had
              rw [← hx1, ← hx2] at had hrn
              have HLE := Lib.hid hle
              have HN := Lib.hid (show ∀ W, (W.cell? ⟨A, 1, none⟩ = some (.bool t) ∧ W.cell? ⟨B, 1, none⟩ = some (.bool s) ∧ W.cell? ⟨A, 3, none⟩ = some (.int .i64 e1) ∧ W.cell? ⟨C, 0, none⟩ = some (.int .i64 p) ∧ W.cell? ⟨C, 1, none⟩ = some (.int .i64 q) ∧ W.cell? ⟨D, 0, none⟩ = some (.int .i64 (m : Int)) ∧ W.cell? ⟨D, 1, none⟩ = some (.int .i64 0)) ∧ Ext w W → Calls Tryz.prog 22 #[.agg #[.int .i64 (m : Int), .int .i64 0]] W (fun e w' => e = .returned (.agg #[.int .i64 y1, .int .i64 y2]) ∧ ((w'.cell? ⟨A, 1, none⟩ = some (.bool t) ∧ w'.cell? ⟨B, 1, none⟩ = some (.bool s) ∧ w'.cell? ⟨A, 3, none⟩ = some (.int .i64 e1) ∧ w'.cell? ⟨C, 0, none⟩ = some (.int .i64 p) ∧ w'.cell? ⟨C, 1, none⟩ = some (.int .i64 q) ∧ w'.cell? ⟨D, 0, none⟩ = some (.int .i64 (m : Int)) ∧ w'.cell? ⟨D, 1, none⟩ = some (.int .i64 0)) ∧ Ext w w')) from held_call (fun W => (W.cell? ⟨A, 1, none⟩ = some (.bool t) ∧ W.cell? ⟨B, 1, none⟩ = some (.bool s) ∧ W.cell? ⟨A, 3, none⟩ = some (.int .i64 e1) ∧ W.cell? ⟨C, 0, none⟩ = some (.int .i64 p) ∧ W.cell? ⟨C, 1, none⟩ = some (.int .i64 q) ∧ W.cell? ⟨D, 0, none⟩ = some (.int .i64 (m : Int)) ∧ W.cell? ⟨D, 1, none⟩ = some (.int .i64 0)) ∧ Ext w W) hS hne)
              have HA := Lib.hid (show ∀ W, (W.cell? ⟨A, 1, none⟩ = some (.bool t) ∧ W.cell? ⟨B, 1, none⟩ = some (.bool s) ∧ W.cell? ⟨A, 3, none⟩ = some (.int .i64 e1) ∧ W.cell? ⟨C, 0, none⟩ = some (.int .i64 p) ∧ W.cell? ⟨C, 1, none⟩ = some (.int .i64 q) ∧ W.cell? ⟨D, 0, none⟩ = some (.int .i64 (m : Int)) ∧ W.cell? ⟨D, 1, none⟩ = some (.int .i64 0)) ∧ Ext w W → Calls Tryz.prog 35 #[.agg #[.int .i64 p, .int .i64 q], .agg #[.int .i64 y1, .int .i64 y2]] W (fun e w' => e = .returned (.agg #[.int .i64 x1, .int .i64 x2]) ∧ ((w'.cell? ⟨A, 1, none⟩ = some (.bool t) ∧ w'.cell? ⟨B, 1, none⟩ = some (.bool s) ∧ w'.cell? ⟨A, 3, none⟩ = some (.int .i64 e1) ∧ w'.cell? ⟨C, 0, none⟩ = some (.int .i64 p) ∧ w'.cell? ⟨C, 1, none⟩ = some (.int .i64 q) ∧ w'.cell? ⟨D, 0, none⟩ = some (.int .i64 (m : Int)) ∧ w'.cell? ⟨D, 1, none⟩ = some (.int .i64 0)) ∧ Ext w w')) from held_call (fun W => (W.cell? ⟨A, 1, none⟩ = some (.bool t) ∧ W.cell? ⟨B, 1, none⟩ = some (.bool s) ∧ W.cell? ⟨A, 3, none⟩ = some (.int .i64 e1) ∧ W.cell? ⟨C, 0, none⟩ = some (.int .i64 p) ∧ W.cell? ⟨C, 1, none⟩ = some (.int .i64 q) ∧ W.cell? ⟨D, 0, none⟩ = some (.int .i64 (m : Int)) ∧ W.cell? ⟨D, 1, none⟩ = some (.int .i64 0)) ∧ Ext w W) hS had)
              have HR := Lib.hid (show ∀ W, (W.cell? ⟨A, 1, none⟩ = some (.bool t) ∧ W.cell? ⟨B, 1, none⟩ = some (.bool s) ∧ W.cell? ⟨A, 3, none⟩ = some (.int .i64 e1) ∧ W.cell? ⟨C, 0, none⟩ = some (.int .i64 p) ∧ W.cell? ⟨C, 1, none⟩ = some (.int .i64 q) ∧ W.cell? ⟨D, 0, none⟩ = some (.int .i64 (m : Int)) ∧ W.cell? ⟨D, 1, none⟩ = some (.int .i64 0)) ∧ Ext w W → Calls Tryz.prog 82 #[.bool t, .agg #[.int .i64 x1, .int .i64 x2], .int .i64 e1, .bool false] W (fun e w' => e = .returned (.int .i64 res) ∧ ((w'.cell? ⟨A, 1, none⟩ = some (.bool t) ∧ w'.cell? ⟨B, 1, none⟩ = some (.bool s) ∧ w'.cell? ⟨A, 3, none⟩ = some (.int .i64 e1) ∧ w'.cell? ⟨C, 0, none⟩ = some (.int .i64 p) ∧ w'.cell? ⟨C, 1, none⟩ = some (.int .i64 q) ∧ w'.cell? ⟨D, 0, none⟩ = some (.int .i64 (m : Int)) ∧ w'.cell? ⟨D, 1, none⟩ = some (.int .i64 0)) ∧ Ext w w')) from held_call (fun W => (W.cell? ⟨A, 1, none⟩ = some (.bool t) ∧ W.cell? ⟨B, 1, none⟩ = some (.bool s) ∧ W.cell? ⟨A, 3, none⟩ = some (.int .i64 e1) ∧ W.cell? ⟨C, 0, none⟩ = some (.int .i64 p) ∧ W.cell? ⟨C, 1, none⟩ = some (.int .i64 q) ∧ W.cell? ⟨D, 0, none⟩ = some (.int .i64 (m : Int)) ∧ W.cell? ⟨D, 1, none⟩ = some (.int .i64 0)) ∧ Ext w W) hS hrn)
              clear hne had hrn hx1 hx2 hy1 hy2 hS hst hg hle
              go_wp2_with fail
              refine (HLE.out _).mono ?_
              rintro e w3 ⟨rfl, hx3⟩
              have a1 := ext_keeps hx3 a1
              have d1 := ext_keeps hx3 d1
              have a3 := ext_keeps hx3 a3
              have c0 := ext_keeps hx3 c0
              have c1 := ext_keeps hx3 c1
              have k0 := ext_keeps hx3 k0
              have k1 := ext_keeps hx3 k1
              have hx := hx.trans hx3
              clear hx3
              go_wp2_with fail
              go_region_held3 (fun W => (W.cell? ⟨A, 1, none⟩ = some (.bool t) ∧ W.cell? ⟨B, 1, none⟩ = some (.bool s) ∧ W.cell? ⟨A, 3, none⟩ = some (.int .i64 e1) ∧ W.cell? ⟨C, 0, none⟩ = some (.int .i64 p) ∧ W.cell? ⟨C, 1, none⟩ = some (.int .i64 q) ∧ W.cell? ⟨D, 0, none⟩ = some (.int .i64 (m : Int)) ∧ W.cell? ⟨D, 1, none⟩ = some (.int .i64 0)) ∧ Ext w W) (first | exact ⟨⟨a1, d1, a3, c0, c1, k0, k1⟩, hx⟩ | exact ⟨⟨a1, d1, a3, c0, c1, k0, k1⟩, hx.drew⟩ | exact hy | assumption)
                (first | (go_at_call 22; (with_reducible refine (HN.out _ ?_).mono ?_); assumption; rintro e w' ⟨rfl, hy⟩) | (go_at_call 35; (with_reducible refine (HA.out _ ?_).mono ?_); assumption; rintro e w' ⟨rfl, hy⟩) | (go_at_call 82; (with_reducible refine (HR.out _ ?_).mono ?_); assumption; rintro e w' ⟨rfl, hy⟩))
              all_goals
                go_wp2_with fail
                go_ret
                exact ⟨rfl, hy.2⟩
            · by_cases hq : n * 2 ^ k = m
              · have heq := eqN (n * 2 ^ k) (m) HPB.out HQB.out true (decide_eq_true hq)
                rw [← HPV.out.1, ← HPV.out.2] at heq
                have h0 : res = 0 := by rw [HRS.out, addW_eq t s hst HLE0.out (by rw [HDN.out.2.1]; exact hq)]; decide +kernel
                have HZ0 := Lib.hid h0
                clear hS hst hg hq h0
                go_wp2_with fail
                go_ret
                exact ⟨by rw [HZ0.out]; rfl, hx⟩
              · have heq := eqN (n * 2 ^ k) (m) HPB.out HQB.out false (decide_eq_false hq)
                rw [← HPV.out.1, ← HPV.out.2] at heq
                have hlt3 : n * 2 ^ k < m := by omega
                have hle := lessN (n * 2 ^ k) (m) HPB.out HQB.out true (decide_eq_true hlt3)
                have hne := negP (n * 2 ^ k)
                have had := addQP (n * 2 ^ k) (m) (Nat.le_of_lt hlt3) HQB.out
                have hrn := (fun W => by have := rnd_exact s (m - n * 2 ^ k) (by have := HQB.out; omega) e1 HPL.out W; rw [HRS.out, addW_lt t s hst HLE0.out (by rw [HDN.out.2.1]; exact hlt3), HDN.out.2.1]; exact this : RndN s (lo ((m - n * 2 ^ k : Nat) : Int)) (hi ((m - n * 2 ^ k : Nat) : Int)) e1 false res)
                rw [← HPV.out.1, ← HPV.out.2] at hle hne
                obtain ⟨y1, hy1⟩ : ∃ x, x = lo (-((n * 2 ^ k : Nat) : Int)) := ⟨_, rfl⟩
                obtain ⟨y2, hy2⟩ : ∃ x, x = hi (-((n * 2 ^ k : Nat) : Int)) := ⟨_, rfl⟩
                obtain ⟨x1, hx1⟩ : ∃ x, x = lo ((m - n * 2 ^ k : Nat) : Int) := ⟨_, rfl⟩
                obtain ⟨x2, hx2⟩ : ∃ x, x = hi ((m - n * 2 ^ k : Nat) : Int) := ⟨_, rfl⟩
                rw [← hy1, ← hy2] at hne had
                rw [← hx1, ← hx2] at had hrn
                have HLE := Lib.hid hle
                have HN := Lib.hid (show ∀ W, (W.cell? ⟨A, 1, none⟩ = some (.bool t) ∧ W.cell? ⟨B, 1, none⟩ = some (.bool s) ∧ W.cell? ⟨A, 3, none⟩ = some (.int .i64 e1) ∧ W.cell? ⟨C, 0, none⟩ = some (.int .i64 p) ∧ W.cell? ⟨C, 1, none⟩ = some (.int .i64 q) ∧ W.cell? ⟨D, 0, none⟩ = some (.int .i64 (m : Int)) ∧ W.cell? ⟨D, 1, none⟩ = some (.int .i64 0)) ∧ Ext w W → Calls Tryz.prog 22 #[.agg #[.int .i64 p, .int .i64 q]] W (fun e w' => e = .returned (.agg #[.int .i64 y1, .int .i64 y2]) ∧ ((w'.cell? ⟨A, 1, none⟩ = some (.bool t) ∧ w'.cell? ⟨B, 1, none⟩ = some (.bool s) ∧ w'.cell? ⟨A, 3, none⟩ = some (.int .i64 e1) ∧ w'.cell? ⟨C, 0, none⟩ = some (.int .i64 p) ∧ w'.cell? ⟨C, 1, none⟩ = some (.int .i64 q) ∧ w'.cell? ⟨D, 0, none⟩ = some (.int .i64 (m : Int)) ∧ w'.cell? ⟨D, 1, none⟩ = some (.int .i64 0)) ∧ Ext w w')) from held_call (fun W => (W.cell? ⟨A, 1, none⟩ = some (.bool t) ∧ W.cell? ⟨B, 1, none⟩ = some (.bool s) ∧ W.cell? ⟨A, 3, none⟩ = some (.int .i64 e1) ∧ W.cell? ⟨C, 0, none⟩ = some (.int .i64 p) ∧ W.cell? ⟨C, 1, none⟩ = some (.int .i64 q) ∧ W.cell? ⟨D, 0, none⟩ = some (.int .i64 (m : Int)) ∧ W.cell? ⟨D, 1, none⟩ = some (.int .i64 0)) ∧ Ext w W) hS hne)
                have HA := Lib.hid (show ∀ W, (W.cell? ⟨A, 1, none⟩ = some (.bool t) ∧ W.cell? ⟨B, 1, none⟩ = some (.bool s) ∧ W.cell? ⟨A, 3, none⟩ = some (.int .i64 e1) ∧ W.cell? ⟨C, 0, none⟩ = some (.int .i64 p) ∧ W.cell? ⟨C, 1, none⟩ = some (.int .i64 q) ∧ W.cell? ⟨D, 0, none⟩ = some (.int .i64 (m : Int)) ∧ W.cell? ⟨D, 1, none⟩ = some (.int .i64 0)) ∧ Ext w W → Calls Tryz.prog 35 #[.agg #[.int .i64 (m : Int), .int .i64 0], .agg #[.int .i64 y1, .int .i64 y2]] W (fun e w' => e = .returned (.agg #[.int .i64 x1, .int .i64 x2]) ∧ ((w'.cell? ⟨A, 1, none⟩ = some (.bool t) ∧ w'.cell? ⟨B, 1, none⟩ = some (.bool s) ∧ w'.cell? ⟨A, 3, none⟩ = some (.int .i64 e1) ∧ w'.cell? ⟨C, 0, none⟩ = some (.int .i64 p) ∧ w'.cell? ⟨C, 1, none⟩ = some (.int .i64 q) ∧ w'.cell? ⟨D, 0, none⟩ = some (.int .i64 (m : Int)) ∧ w'.cell? ⟨D, 1, none⟩ = some (.int .i64 0)) ∧ Ext w w')) from held_call (fun W => (W.cell? ⟨A, 1, none⟩ = some (.bool t) ∧ W.cell? ⟨B, 1, none⟩ = some (.bool s) ∧ W.cell? ⟨A, 3, none⟩ = some (.int .i64 e1) ∧ W.cell? ⟨C, 0, none⟩ = some (.int .i64 p) ∧ W.cell? ⟨C, 1, none⟩ = some (.int .i64 q) ∧ W.cell? ⟨D, 0, none⟩ = some (.int .i64 (m : Int)) ∧ W.cell? ⟨D, 1, none⟩ = some (.int .i64 0)) ∧ Ext w W) hS had)
                have HR := Lib.hid (show ∀ W, (W.cell? ⟨A, 1, none⟩ = some (.bool t) ∧ W.cell? ⟨B, 1, none⟩ = some (.bool s) ∧ W.cell? ⟨A, 3, none⟩ = some (.int .i64 e1) ∧ W.cell? ⟨C, 0, none⟩ = some (.int .i64 p) ∧ W.cell? ⟨C, 1, none⟩ = some (.int .i64 q) ∧ W.cell? ⟨D, 0, none⟩ = some (.int .i64 (m : Int)) ∧ W.cell? ⟨D, 1, none⟩ = some (.int .i64 0)) ∧ Ext w W → Calls Tryz.prog 82 #[.bool s, .agg #[.int .i64 x1, .int .i64 x2], .int .i64 e1, .bool false] W (fun e w' => e = .returned (.int .i64 res) ∧ ((w'.cell? ⟨A, 1, none⟩ = some (.bool t) ∧ w'.cell? ⟨B, 1, none⟩ = some (.bool s) ∧ w'.cell? ⟨A, 3, none⟩ = some (.int .i64 e1) ∧ w'.cell? ⟨C, 0, none⟩ = some (.int .i64 p) ∧ w'.cell? ⟨C, 1, none⟩ = some (.int .i64 q) ∧ w'.cell? ⟨D, 0, none⟩ = some (.int .i64 (m : Int)) ∧ w'.cell? ⟨D, 1, none⟩ = some (.int .i64 0)) ∧ Ext w w')) from held_call (fun W => (W.cell? ⟨A, 1, none⟩ = some (.bool t) ∧ W.cell? ⟨B, 1, none⟩ = some (.bool s) ∧ W.cell? ⟨A, 3, none⟩ = some (.int .i64 e1) ∧ W.cell? ⟨C, 0, none⟩ = some (.int .i64 p) ∧ W.cell? ⟨C, 1, none⟩ = some (.int .i64 q) ∧ W.cell? ⟨D, 0, none⟩ = some (.int .i64 (m : Int)) ∧ W.cell? ⟨D, 1, none⟩ = some (.int .i64 0)) ∧ Ext w W) hS hrn)
                clear hne had hrn hx1 hx2 hy1 hy2 hS hst hg hle hq hlt3
                go_wp2_with fail
                refine (HLE.out _).mono ?_
                rintro e w3 ⟨rfl, hx3⟩
                have a1 := ext_keeps hx3 a1
                have d1 := ext_keeps hx3 d1
                have a3 := ext_keeps hx3 a3
                have c0 := ext_keeps hx3 c0
                have c1 := ext_keeps hx3 c1
                have k0 := ext_keeps hx3 k0
                have k1 := ext_keeps hx3 k1
                have hx := hx.trans hx3
                clear hx3
                go_wp2_with fail
                go_region_held3 (fun W => (W.cell? ⟨A, 1, none⟩ = some (.bool t) ∧ W.cell? ⟨B, 1, none⟩ = some (.bool s) ∧ W.cell? ⟨A, 3, none⟩ = some (.int .i64 e1) ∧ W.cell? ⟨C, 0, none⟩ = some (.int .i64 p) ∧ W.cell? ⟨C, 1, none⟩ = some (.int .i64 q) ∧ W.cell? ⟨D, 0, none⟩ = some (.int .i64 (m : Int)) ∧ W.cell? ⟨D, 1, none⟩ = some (.int .i64 0)) ∧ Ext w W) (first | exact ⟨⟨a1, d1, a3, c0, c1, k0, k1⟩, hx⟩ | exact ⟨⟨a1, d1, a3, c0, c1, k0, k1⟩, hx.drew⟩ | exact hy | assumption)
                  (first | (go_at_call 22; (with_reducible refine (HN.out _ ?_).mono ?_); assumption; rintro e w' ⟨rfl, hy⟩) | (go_at_call 35; (with_reducible refine (HA.out _ ?_).mono ?_); assumption; rintro e w' ⟨rfl, hy⟩) | (go_at_call 82; (with_reducible refine (HR.out _ ?_).mono ?_); assumption; rintro e w' ⟨rfl, hy⟩))
                all_goals
                  go_wp2_with fail
                  go_ret
                  exact ⟨rfl, hy.2⟩
  · have RES2 := RES
    go_upto_region 3 with fail
    have q1 := HP.out.1
    have q2 := HP.out.2
    have q3 := HX.out
    obtain ⟨V, hV⟩ : ∃ V, V = W := ⟨_, rfl⟩
    rw [← hV] at q1 q2 q3
    rw [← hV]
    clear HP HX a0 a1 a2 a3 d0 d1 d2 d3 fa fb hV
    have hle : e2 ≤ e1 := by omega
    obtain ⟨C, hC⟩ : ∃ C, C = V.heap.size := ⟨_, rfl⟩
    obtain ⟨D, hD⟩ : ∃ D, D = V.heap.size + 1 := ⟨_, rfl⟩
    have ea := q1.lt
    have eb := q2.lt
    have eg := q3.1.size
    have Z : Apart w A B C D := ⟨hAB, by omega, by omega, by omega, by omega, by omega, by have := HSZ.out; omega, by have := HSZ.out; omega, by omega, by omega⟩
    have au : Au w ((V.alloc (.cells #[.int .i64 (m : Int), .int .i64 0] 44)).alloc (.cells #[.int .i64 (n : Int), .int .i64 0] 44)) A B C D s m e1 t n e2 m 0 n 0 := by
      have x1 : Ext V (V.alloc (.cells #[.int .i64 (m : Int), .int .i64 0] 44)) := (Ext.refl V).cells _ _
      have x2 : Ext (V.alloc (.cells #[.int .i64 (m : Int), .int .i64 0] 44)) ((V.alloc (.cells #[.int .i64 (m : Int), .int .i64 0] 44)).alloc (.cells #[.int .i64 (n : Int), .int .i64 0] 44)) := (Ext.refl _).cells _ _
      have od := Own.last (X := V.alloc (.cells #[.int .i64 (m : Int), .int .i64 0] 44)) (x := .int .i64 (n : Int)) (y := .int .i64 0) (t := 44)
      rw [size_alloc, ← hD] at od
      have oc := (Own.last (X := V) (x := .int .i64 (m : Int)) (y := .int .i64 0) (t := 44)).ext x2
      rw [← hC] at oc
      exact ⟨(q1.ext x1).ext x2, (q2.ext x1).ext x2, oc, od, (q3.trans x1).trans x2⟩
    have w1 : wrap64 (m : Int) = (m : Int) := by unfold wrap64; omega
    have w2 : wrap64 (n : Int) = (n : Int) := by unfold wrap64; omega
    have w3 : wrap64 (e1 - e2) = e1 - e2 := by unfold wrap64; omega
    have a0 := q1.c0
    have a1 := q1.c1
    have a2 := q1.c2
    have a3 := q1.c3
    have d0 := q2.c0
    have d1 := q2.c1
    have d2 := q2.c2
    have d3 := q2.c3
    have la := q1.lt
    have lb := q2.lt
    have fa := q1.f
    have fb := q2.f
    have HCD := Lib.hid (And.intro hC hD)
    have HZ := Lib.hid Z
    have nAC := Z.ac
    have nAD := Z.ad
    have nBC := Z.bc
    have nBD := Z.bd
    have nCD := Z.cd
    have nCA := Z.ac.symm
    have nDA := Z.ad.symm
    have nCB := Z.bc.symm
    have nDB := Z.bd.symm
    have nDC := Z.cd.symm
    clear q1 q2 q3 ea eb eg hC hD Z
    go_upto_region 4 with fail
    go_upto_region 5 with fail
    rw [← HCD.out.2, ← HCD.out.1]
    generalize (V.alloc (.cells #[.int .i64 (m : Int), .int .i64 0] 44)).alloc (.cells #[.int .i64 (n : Int), .int .i64 0] 44) = V2 at *
    have HAU := Lib.hid au
    clear au a0 a1 a2 a3 d0 d1 d2 d3 la lb fa fb w1 w2
    have a0 := HAU.out.a.c0
    have a1 := HAU.out.a.c1
    have a2 := HAU.out.a.c2
    have a3 := HAU.out.a.c3
    have fa := HAU.out.a.f
    have la := HAU.out.a.lt
    have d0 := HAU.out.b.c0
    have d1 := HAU.out.b.c1
    have d2 := HAU.out.b.c2
    have d3 := HAU.out.b.c3
    have fb := HAU.out.b.f
    have lb := HAU.out.b.lt
    have c0 := HAU.out.c.c0
    have c1 := HAU.out.c.c1
    have g0 := HAU.out.c.f0
    have g1 := HAU.out.c.f1
    have lc := HAU.out.c.lt
    have k0 := HAU.out.d.c0
    have k1 := HAU.out.d.c1
    have h0 := HAU.out.d.f0
    have h1 := HAU.out.d.f1
    have ld := HAU.out.d.lt
    by_cases hfar : 64 < e1 - e2
    · have h52 : 4503599627370496 ≤ m := by omega
      have HFR := Lib.hid (And.intro hfar h52)
      go_wp2_with fail
      have H0 := Lib.hid (show Au w V2 A B C D s m e1 t n e2 (lo ((m * 2 ^ 0 : Nat) : Int)) (hi ((m * 2 ^ 0 : Nat) : Int)) n 0 by
        rw [Nat.pow_zero, Nat.mul_one, (lo_of m (by assumption)).1, (lo_of m (by assumption)).2]
        exact HAU.out)
      clear a0 a1 a2 a3 fa la d0 d1 d2 d3 fb lb c0 c1 g0 g1 lc k0 k1 h0 h1 ld HAU w3
      go_loopw [8] (fun iv wr => ∃ (k : Nat) (E p q : Int), k ≤ 11 ∧ iv = .int .i64 (k : Int) ∧ RowKit.Hid (E = e1 - (k : Int) ∧ p = lo ((m * 2 ^ k : Nat) : Int) ∧ q = hi ((m * 2 ^ k : Nat) : Int)) ∧ RowKit.Hid (Au w wr A B C D s m E t n e2 p q n 0)) (fun iv _ => 11 - (intOf iv).toNat)
      case atStart => exact ⟨0, _, _, _, Nat.zero_le _, rfl, Lib.hid ⟨by simp, rfl, rfl⟩, H0⟩
      case round =>
        obtain ⟨k, E, p, q, hk, rfl, HE, HJ⟩ := hrel
        clear H0
        have a0 := HJ.out.a.c0
        have a1 := HJ.out.a.c1
        have a2 := HJ.out.a.c2
        have a3 := HJ.out.a.c3
        have fa := HJ.out.a.f
        have la := HJ.out.a.lt
        have d0 := HJ.out.b.c0
        have d1 := HJ.out.b.c1
        have d2 := HJ.out.b.c2
        have d3 := HJ.out.b.c3
        have fb := HJ.out.b.f
        have lb := HJ.out.b.lt
        have c0 := HJ.out.c.c0
        have c1 := HJ.out.c.c1
        have g0 := HJ.out.c.f0
        have g1 := HJ.out.c.f1
        have lc := HJ.out.c.lt
        have k0 := HJ.out.d.c0
        have k1 := HJ.out.d.c1
        have h0 := HJ.out.d.f0
        have h1 := HJ.out.d.f1
        have ld := HJ.out.d.lt
        have hk0 : (0 : Int) ≤ (k : Int) := by omega
        by_cases hlt2 : k < 11
        · have hk1 : (k : Int) < 11 := by omega
          have hE2 : wrap64 (E - 1) = E - 1 := by have := HE.out.1; unfold wrap64; omega
          have ht := fun W => twice_pow m k W
          rw [← HE.out.2.1, ← HE.out.2.2] at ht
          obtain ⟨p', hp'⟩ : ∃ x, x = lo ((m * 2 ^ (k + 1) : Nat) : Int) := ⟨_, rfl⟩
          obtain ⟨q', hq'⟩ : ∃ x, x = hi ((m * 2 ^ (k + 1) : Nat) : Int) := ⟨_, rfl⟩
          rw [← hp', ← hq'] at ht
          have HT := Lib.hid ht
          have HE2 := Lib.hid (show E - 1 = e1 - ((k + 1 : Nat) : Int) ∧ p' = lo ((m * 2 ^ (k + 1) : Nat) : Int) ∧ q' = hi ((m * 2 ^ (k + 1) : Nat) : Int) from ⟨by have := HE.out.1; omega, hp', hq'⟩)
          have hwk : wrap64 ((k : Int) + 1) = (k : Int) + 1 := by unfold wrap64; omega
          clear ht hp' hq'
          go_wp2_with fail
          refine (HT.out _).mono ?_
          rintro e w' ⟨rfl, hx1⟩
          have H2 := Lib.hid (HJ.out.ext hx1)
          clear a0 a1 a2 a3 fa la d0 d1 d2 d3 fb lb c0 c1 g0 g1 lc k0 k1 h0 h1 ld hx1 HT
          have a0 := H2.out.a.c0
          have a1 := H2.out.a.c1
          have a2 := H2.out.a.c2
          have a3 := H2.out.a.c3
          have fa := H2.out.a.f
          have la := H2.out.a.lt
          have d0 := H2.out.b.c0
          have d1 := H2.out.b.c1
          have d2 := H2.out.b.c2
          have d3 := H2.out.b.c3
          have fb := H2.out.b.f
          have lb := H2.out.b.lt
          have c0 := H2.out.c.c0
          have c1 := H2.out.c.c1
          have g0 := H2.out.c.f0
          have g1 := H2.out.c.f1
          have lc := H2.out.c.lt
          have k0 := H2.out.d.c0
          have k1 := H2.out.d.c1
          have h0 := H2.out.d.f0
          have h1 := H2.out.d.f1
          have ld := H2.out.d.lt
          go_wp2_with fail
          have H3 := (H2.out.setP HZ.out p' q').setA HZ.out (E - 1)
          go_roundw
          case rel => exact ⟨k + 1, E - 1, p', q', hlt2, by simp, HE2, Lib.hid H3⟩
          case measure => simp [intOf]; omega
        · obtain rfl : k = 11 := by omega
          have hE11 : E = e1 - 11 := by have := HE.out.1; omega
          have HPV := Lib.hid HE.out.2
          clear HE hk hk0 hlt2
          have HEE := Lib.hid hE11
          have h11a : -10000 ≤ E := by omega
          clear hE11
          by_cases n0 : n = 0
          · have hnz : ((n : Int) != 0) = false := by rw [n0]; rfl
            have H3 := (HJ.out.setQ HZ.out 0 0).setB HZ.out E
            go_wp2_with fail
            go_loopw [] (fun wr => RowKit.Hid (Au w wr A B C D s m E t n E p q 0 0)) (fun _ => 0)
            case atStart => exact Lib.hid H3
            case round =>
              have HJ2 := hrel
              clear H3 a0 a1 a2 a3 fa la d0 d1 d2 d3 fb lb c0 c1 g0 g1 lc k0 k1 h0 h1 ld hrel
              have a0 := HJ2.out.a.c0
              have a1 := HJ2.out.a.c1
              have a2 := HJ2.out.a.c2
              have a3 := HJ2.out.a.c3
              have fa := HJ2.out.a.f
              have la := HJ2.out.a.lt
              have d0 := HJ2.out.b.c0
              have d1 := HJ2.out.b.c1
              have d2 := HJ2.out.b.c2
              have d3 := HJ2.out.b.c3
              have fb := HJ2.out.b.f
              have lb := HJ2.out.b.lt
              have c0 := HJ2.out.c.c0
              have c1 := HJ2.out.c.c1
              have g0 := HJ2.out.c.f0
              have g1 := HJ2.out.c.f1
              have lc := HJ2.out.c.lt
              have k0 := HJ2.out.d.c0
              have k1 := HJ2.out.d.c1
              have h0 := HJ2.out.d.f0
              have h1 := HJ2.out.d.f1
              have ld := HJ2.out.d.lt
              have hx := HJ2.out.x
              have hres := RES2.out
              have HRS := Lib.hid hres
              have HQB := Lib.hid (show 0 < 9007199254740992 by decide)
              have HPB := Lib.hid (show m * 2 ^ 11 < 42535295865117307932921825928971026432 by rw [p11]; omega)
              have hpos : 0 < m * 2 ^ 11 := by rw [p11]; have := HFR.out.2; omega
              have HPO := Lib.hid hpos
              clear hres HJ2 hpos
              have hS : ∀ W W', Ext W W' → (fun W => (W.cell? ⟨A, 1, none⟩ = some (.bool s) ∧ W.cell? ⟨B, 1, none⟩ = some (.bool t) ∧ W.cell? ⟨A, 3, none⟩ = some (.int .i64 E) ∧ W.cell? ⟨C, 0, none⟩ = some (.int .i64 p) ∧ W.cell? ⟨C, 1, none⟩ = some (.int .i64 q) ∧ W.cell? ⟨D, 0, none⟩ = some (.int .i64 0) ∧ W.cell? ⟨D, 1, none⟩ = some (.int .i64 0)) ∧ Ext w W) W → (fun W => (W.cell? ⟨A, 1, none⟩ = some (.bool s) ∧ W.cell? ⟨B, 1, none⟩ = some (.bool t) ∧ W.cell? ⟨A, 3, none⟩ = some (.int .i64 E) ∧ W.cell? ⟨C, 0, none⟩ = some (.int .i64 p) ∧ W.cell? ⟨C, 1, none⟩ = some (.int .i64 q) ∧ W.cell? ⟨D, 0, none⟩ = some (.int .i64 0) ∧ W.cell? ⟨D, 1, none⟩ = some (.int .i64 0)) ∧ Ext w W) W' := fun W W' hx h => ⟨⟨ext_keeps hx h.1.1, ext_keeps hx h.1.2.1, ext_keeps hx h.1.2.2.1, ext_keeps hx h.1.2.2.2.1, ext_keeps hx h.1.2.2.2.2.1, ext_keeps hx h.1.2.2.2.2.2.1, ext_keeps hx h.1.2.2.2.2.2.2⟩, h.2.trans hx⟩
              by_cases hst : s = t
              · have hb : (s == t) = true := by rw [beq_iff_eq]; exact hst
                have hadd := addN (m * 2 ^ 11) (0) HQB.out
                rw [← HPV.out.1, ← HPV.out.2] at hadd
                have hrn := (show RndN s (lo ((m * 2 ^ 11 + 0 : Nat) : Int)) (hi ((m * 2 ^ 11 + 0 : Nat) : Int)) E false res by rw [HRS.out, ← hst, n0, HEE.out]; exact far_a s hm HFR.out.2 HFR.out.1 u1 l2)
                obtain ⟨x1, hx1⟩ : ∃ x, x = lo ((m * 2 ^ 11 + 0 : Nat) : Int) := ⟨_, rfl⟩
                obtain ⟨x2, hx2⟩ : ∃ x, x = hi ((m * 2 ^ 11 + 0 : Nat) : Int) := ⟨_, rfl⟩
                rw [← hx1, ← hx2] at hadd hrn
                have HA := Lib.hid (show ∀ W, (W.cell? ⟨A, 1, none⟩ = some (.bool s) ∧ W.cell? ⟨B, 1, none⟩ = some (.bool t) ∧ W.cell? ⟨A, 3, none⟩ = some (.int .i64 E) ∧ W.cell? ⟨C, 0, none⟩ = some (.int .i64 p) ∧ W.cell? ⟨C, 1, none⟩ = some (.int .i64 q) ∧ W.cell? ⟨D, 0, none⟩ = some (.int .i64 0) ∧ W.cell? ⟨D, 1, none⟩ = some (.int .i64 0)) ∧ Ext w W → Calls Tryz.prog 35 #[.agg #[.int .i64 p, .int .i64 q], .agg #[.int .i64 0, .int .i64 0]] W (fun e w' => e = .returned (.agg #[.int .i64 x1, .int .i64 x2]) ∧ ((w'.cell? ⟨A, 1, none⟩ = some (.bool s) ∧ w'.cell? ⟨B, 1, none⟩ = some (.bool t) ∧ w'.cell? ⟨A, 3, none⟩ = some (.int .i64 E) ∧ w'.cell? ⟨C, 0, none⟩ = some (.int .i64 p) ∧ w'.cell? ⟨C, 1, none⟩ = some (.int .i64 q) ∧ w'.cell? ⟨D, 0, none⟩ = some (.int .i64 0) ∧ w'.cell? ⟨D, 1, none⟩ = some (.int .i64 0)) ∧ Ext w w')) from held_call (fun W => (W.cell? ⟨A, 1, none⟩ = some (.bool s) ∧ W.cell? ⟨B, 1, none⟩ = some (.bool t) ∧ W.cell? ⟨A, 3, none⟩ = some (.int .i64 E) ∧ W.cell? ⟨C, 0, none⟩ = some (.int .i64 p) ∧ W.cell? ⟨C, 1, none⟩ = some (.int .i64 q) ∧ W.cell? ⟨D, 0, none⟩ = some (.int .i64 0) ∧ W.cell? ⟨D, 1, none⟩ = some (.int .i64 0)) ∧ Ext w W) hS hadd)
                have HR := Lib.hid (show ∀ W, (W.cell? ⟨A, 1, none⟩ = some (.bool s) ∧ W.cell? ⟨B, 1, none⟩ = some (.bool t) ∧ W.cell? ⟨A, 3, none⟩ = some (.int .i64 E) ∧ W.cell? ⟨C, 0, none⟩ = some (.int .i64 p) ∧ W.cell? ⟨C, 1, none⟩ = some (.int .i64 q) ∧ W.cell? ⟨D, 0, none⟩ = some (.int .i64 0) ∧ W.cell? ⟨D, 1, none⟩ = some (.int .i64 0)) ∧ Ext w W → Calls Tryz.prog 82 #[.bool s, .agg #[.int .i64 x1, .int .i64 x2], .int .i64 E, .bool false] W (fun e w' => e = .returned (.int .i64 res) ∧ ((w'.cell? ⟨A, 1, none⟩ = some (.bool s) ∧ w'.cell? ⟨B, 1, none⟩ = some (.bool t) ∧ w'.cell? ⟨A, 3, none⟩ = some (.int .i64 E) ∧ w'.cell? ⟨C, 0, none⟩ = some (.int .i64 p) ∧ w'.cell? ⟨C, 1, none⟩ = some (.int .i64 q) ∧ w'.cell? ⟨D, 0, none⟩ = some (.int .i64 0) ∧ w'.cell? ⟨D, 1, none⟩ = some (.int .i64 0)) ∧ Ext w w')) from held_call (fun W => (W.cell? ⟨A, 1, none⟩ = some (.bool s) ∧ W.cell? ⟨B, 1, none⟩ = some (.bool t) ∧ W.cell? ⟨A, 3, none⟩ = some (.int .i64 E) ∧ W.cell? ⟨C, 0, none⟩ = some (.int .i64 p) ∧ W.cell? ⟨C, 1, none⟩ = some (.int .i64 q) ∧ W.cell? ⟨D, 0, none⟩ = some (.int .i64 0) ∧ W.cell? ⟨D, 1, none⟩ = some (.int .i64 0)) ∧ Ext w W) hS hrn)
                clear hadd hrn hx1 hx2 hS hst
                go_wp2_with fail
                go_region_held3 (fun W => (W.cell? ⟨A, 1, none⟩ = some (.bool s) ∧ W.cell? ⟨B, 1, none⟩ = some (.bool t) ∧ W.cell? ⟨A, 3, none⟩ = some (.int .i64 E) ∧ W.cell? ⟨C, 0, none⟩ = some (.int .i64 p) ∧ W.cell? ⟨C, 1, none⟩ = some (.int .i64 q) ∧ W.cell? ⟨D, 0, none⟩ = some (.int .i64 0) ∧ W.cell? ⟨D, 1, none⟩ = some (.int .i64 0)) ∧ Ext w W) (first | exact ⟨⟨a1, d1, a3, c0, c1, k0, k1⟩, hx⟩ | exact ⟨⟨a1, d1, a3, c0, c1, k0, k1⟩, hx.drew⟩ | exact hy | assumption)
                  (first | (go_at_call 35; (with_reducible refine (HA.out _ ?_).mono ?_); assumption; rintro e w' ⟨rfl, hy⟩) | (go_at_call 82; (with_reducible refine (HR.out _ ?_).mono ?_); assumption; rintro e w' ⟨rfl, hy⟩))
                all_goals
                  go_wp2_with fail
                  go_ret
                  exact ⟨rfl, hy.2⟩
              · have hb : (s == t) = false := by rw [beq_eq_false_iff_ne]; exact hst
                by_cases hg : 0 < m * 2 ^ 11
                · have heq := eqN (m * 2 ^ 11) (0) HPB.out HQB.out false (by rw [decide_eq_false_iff_not]; omega)
                  rw [← HPV.out.1, ← HPV.out.2] at heq
                  have heq : (p == 0 && q == 0) = false := heq
                  have hle := lessN (m * 2 ^ 11) (0) HPB.out HQB.out false (by rw [decide_eq_false_iff_not]; omega)
                  have hne := negQ (0) HQB.out
                  have had := addPQ (m * 2 ^ 11) (0) (Nat.le_of_lt hg)
                  have hrn := (show RndN s (lo ((m * 2 ^ 11 - 0 : Nat) : Int)) (hi ((m * 2 ^ 11 - 0 : Nat) : Int)) E false res by rw [HRS.out, n0, HEE.out]; exact far_b s t hst hm HFR.out.2 HFR.out.1 u1 l2)
                  rw [← HPV.out.1, ← HPV.out.2] at hle had
                  obtain ⟨y1, hy1⟩ : ∃ x, x = lo (-((0 : Nat) : Int)) := ⟨_, rfl⟩
                  obtain ⟨y2, hy2⟩ : ∃ x, x = hi (-((0 : Nat) : Int)) := ⟨_, rfl⟩
                  obtain ⟨x1, hx1⟩ : ∃ x, x = lo ((m * 2 ^ 11 - 0 : Nat) : Int) := ⟨_, rfl⟩
                  obtain ⟨x2, hx2⟩ : ∃ x, x = hi ((m * 2 ^ 11 - 0 : Nat) : Int) := ⟨_, rfl⟩
                  rw [← hy1, ← hy2] at hne had
                  rw [← hx1, ← hx2] at had hrn
                  have HLE := Lib.hid hle
                  have HN := Lib.hid (show ∀ W, (W.cell? ⟨A, 1, none⟩ = some (.bool s) ∧ W.cell? ⟨B, 1, none⟩ = some (.bool t) ∧ W.cell? ⟨A, 3, none⟩ = some (.int .i64 E) ∧ W.cell? ⟨C, 0, none⟩ = some (.int .i64 p) ∧ W.cell? ⟨C, 1, none⟩ = some (.int .i64 q) ∧ W.cell? ⟨D, 0, none⟩ = some (.int .i64 0) ∧ W.cell? ⟨D, 1, none⟩ = some (.int .i64 0)) ∧ Ext w W → Calls Tryz.prog 22 #[.agg #[.int .i64 0, .int .i64 0]] W (fun e w' => e = .returned (.agg #[.int .i64 y1, .int .i64 y2]) ∧ ((w'.cell? ⟨A, 1, none⟩ = some (.bool s) ∧ w'.cell? ⟨B, 1, none⟩ = some (.bool t) ∧ w'.cell? ⟨A, 3, none⟩ = some (.int .i64 E) ∧ w'.cell? ⟨C, 0, none⟩ = some (.int .i64 p) ∧ w'.cell? ⟨C, 1, none⟩ = some (.int .i64 q) ∧ w'.cell? ⟨D, 0, none⟩ = some (.int .i64 0) ∧ w'.cell? ⟨D, 1, none⟩ = some (.int .i64 0)) ∧ Ext w w')) from held_call (fun W => (W.cell? ⟨A, 1, none⟩ = some (.bool s) ∧ W.cell? ⟨B, 1, none⟩ = some (.bool t) ∧ W.cell? ⟨A, 3, none⟩ = some (.int .i64 E) ∧ W.cell? ⟨C, 0, none⟩ = some (.int .i64 p) ∧ W.cell? ⟨C, 1, none⟩ = some (.int .i64 q) ∧ W.cell? ⟨D, 0, none⟩ = some (.int .i64 0) ∧ W.cell? ⟨D, 1, none⟩ = some (.int .i64 0)) ∧ Ext w W) hS hne)
                  have HA := Lib.hid (show ∀ W, (W.cell? ⟨A, 1, none⟩ = some (.bool s) ∧ W.cell? ⟨B, 1, none⟩ = some (.bool t) ∧ W.cell? ⟨A, 3, none⟩ = some (.int .i64 E) ∧ W.cell? ⟨C, 0, none⟩ = some (.int .i64 p) ∧ W.cell? ⟨C, 1, none⟩ = some (.int .i64 q) ∧ W.cell? ⟨D, 0, none⟩ = some (.int .i64 0) ∧ W.cell? ⟨D, 1, none⟩ = some (.int .i64 0)) ∧ Ext w W → Calls Tryz.prog 35 #[.agg #[.int .i64 p, .int .i64 q], .agg #[.int .i64 y1, .int .i64 y2]] W (fun e w' => e = .returned (.agg #[.int .i64 x1, .int .i64 x2]) ∧ ((w'.cell? ⟨A, 1, none⟩ = some (.bool s) ∧ w'.cell? ⟨B, 1, none⟩ = some (.bool t) ∧ w'.cell? ⟨A, 3, none⟩ = some (.int .i64 E) ∧ w'.cell? ⟨C, 0, none⟩ = some (.int .i64 p) ∧ w'.cell? ⟨C, 1, none⟩ = some (.int .i64 q) ∧ w'.cell? ⟨D, 0, none⟩ = some (.int .i64 0) ∧ w'.cell? ⟨D, 1, none⟩ = some (.int .i64 0)) ∧ Ext w w')) from held_call (fun W => (W.cell? ⟨A, 1, none⟩ = some (.bool s) ∧ W.cell? ⟨B, 1, none⟩ = some (.bool t) ∧ W.cell? ⟨A, 3, none⟩ = some (.int .i64 E) ∧ W.cell? ⟨C, 0, none⟩ = some (.int .i64 p) ∧ W.cell? ⟨C, 1, none⟩ = some (.int .i64 q) ∧ W.cell? ⟨D, 0, none⟩ = some (.int .i64 0) ∧ W.cell? ⟨D, 1, none⟩ = some (.int .i64 0)) ∧ Ext w W) hS had)
                  have HR := Lib.hid (show ∀ W, (W.cell? ⟨A, 1, none⟩ = some (.bool s) ∧ W.cell? ⟨B, 1, none⟩ = some (.bool t) ∧ W.cell? ⟨A, 3, none⟩ = some (.int .i64 E) ∧ W.cell? ⟨C, 0, none⟩ = some (.int .i64 p) ∧ W.cell? ⟨C, 1, none⟩ = some (.int .i64 q) ∧ W.cell? ⟨D, 0, none⟩ = some (.int .i64 0) ∧ W.cell? ⟨D, 1, none⟩ = some (.int .i64 0)) ∧ Ext w W → Calls Tryz.prog 82 #[.bool s, .agg #[.int .i64 x1, .int .i64 x2], .int .i64 E, .bool false] W (fun e w' => e = .returned (.int .i64 res) ∧ ((w'.cell? ⟨A, 1, none⟩ = some (.bool s) ∧ w'.cell? ⟨B, 1, none⟩ = some (.bool t) ∧ w'.cell? ⟨A, 3, none⟩ = some (.int .i64 E) ∧ w'.cell? ⟨C, 0, none⟩ = some (.int .i64 p) ∧ w'.cell? ⟨C, 1, none⟩ = some (.int .i64 q) ∧ w'.cell? ⟨D, 0, none⟩ = some (.int .i64 0) ∧ w'.cell? ⟨D, 1, none⟩ = some (.int .i64 0)) ∧ Ext w w')) from held_call (fun W => (W.cell? ⟨A, 1, none⟩ = some (.bool s) ∧ W.cell? ⟨B, 1, none⟩ = some (.bool t) ∧ W.cell? ⟨A, 3, none⟩ = some (.int .i64 E) ∧ W.cell? ⟨C, 0, none⟩ = some (.int .i64 p) ∧ W.cell? ⟨C, 1, none⟩ = some (.int .i64 q) ∧ W.cell? ⟨D, 0, none⟩ = some (.int .i64 0) ∧ W.cell? ⟨D, 1, none⟩ = some (.int .i64 0)) ∧ Ext w W) hS hrn)
                  clear hne had hrn hx1 hx2 hy1 hy2 hS hst hg hle
                  go_wp2_with fail
                  refine (HLE.out _).mono ?_
                  rintro e w3 ⟨rfl, hx3⟩
                  have a1 := ext_keeps hx3 a1
                  have d1 := ext_keeps hx3 d1
                  have a3 := ext_keeps hx3 a3
                  have c0 := ext_keeps hx3 c0
                  have c1 := ext_keeps hx3 c1
                  have k0 := ext_keeps hx3 k0
                  have k1 := ext_keeps hx3 k1
                  have hx := hx.trans hx3
                  clear hx3
                  go_wp2_with fail
                  go_region_held3 (fun W => (W.cell? ⟨A, 1, none⟩ = some (.bool s) ∧ W.cell? ⟨B, 1, none⟩ = some (.bool t) ∧ W.cell? ⟨A, 3, none⟩ = some (.int .i64 E) ∧ W.cell? ⟨C, 0, none⟩ = some (.int .i64 p) ∧ W.cell? ⟨C, 1, none⟩ = some (.int .i64 q) ∧ W.cell? ⟨D, 0, none⟩ = some (.int .i64 0) ∧ W.cell? ⟨D, 1, none⟩ = some (.int .i64 0)) ∧ Ext w W) (first | exact ⟨⟨a1, d1, a3, c0, c1, k0, k1⟩, hx⟩ | exact ⟨⟨a1, d1, a3, c0, c1, k0, k1⟩, hx.drew⟩ | exact hy | assumption)
                    (first | (go_at_call 22; (with_reducible refine (HN.out _ ?_).mono ?_); assumption; rintro e w' ⟨rfl, hy⟩) | (go_at_call 35; (with_reducible refine (HA.out _ ?_).mono ?_); assumption; rintro e w' ⟨rfl, hy⟩) | (go_at_call 82; (with_reducible refine (HR.out _ ?_).mono ?_); assumption; rintro e w' ⟨rfl, hy⟩))
                  all_goals
                    go_wp2_with fail
                    go_ret
                    exact ⟨rfl, hy.2⟩
                · exact absurd HPO.out hg
          · have hnz : ((n : Int) != 0) = true := by rw [bne_iff_ne]; omega
            have HN0 := Lib.hid n0
            clear n0
            by_cases hss : s = t
            · have hbn : (s != t) = false := by rw [hss]; exact bne_self_eq_false _
              have hb : (s == t) = true := by rw [beq_iff_eq]; exact hss
              have HSS := Lib.hid hss
              clear hss
              go_upto_region 12 with fail
              go_upto_region 13 with fail
              go_upto_region 14 with fail
              have HQ3 := Lib.hid (HJ.out.setQ HZ.out 0 0)
              generalize (wr.setCell ⟨D, 0, none⟩ (.int .i64 0)).setCell ⟨D, 1, none⟩ (.int .i64 0) = W3 at *
              clear a0 a1 a2 a3 fa la d0 d1 d2 d3 fb lb c0 c1 g0 g1 lc k0 k1 h0 h1 ld
              have a0 := HQ3.out.a.c0
              have a1 := HQ3.out.a.c1
              have a2 := HQ3.out.a.c2
              have a3 := HQ3.out.a.c3
              have fa := HQ3.out.a.f
              have la := HQ3.out.a.lt
              have d0 := HQ3.out.b.c0
              have d1 := HQ3.out.b.c1
              have d2 := HQ3.out.b.c2
              have d3 := HQ3.out.b.c3
              have fb := HQ3.out.b.f
              have lb := HQ3.out.b.lt
              have c0 := HQ3.out.c.c0
              have c1 := HQ3.out.c.c1
              have g0 := HQ3.out.c.f0
              have g1 := HQ3.out.c.f1
              have lc := HQ3.out.c.lt
              have k0 := HQ3.out.d.c0
              have k1 := HQ3.out.d.c1
              have h0 := HQ3.out.d.f0
              have h1 := HQ3.out.d.f1
              have ld := HQ3.out.d.lt
              have H3 := HQ3.out.setB HZ.out E
              go_wp2_with fail
              go_loopw [] (fun wr => RowKit.Hid (Au w wr A B C D s m E t n E p q 0 0)) (fun _ => 0)
              case atStart => exact Lib.hid H3
              case round =>
                have HJ2 := hrel
                clear H3 a0 a1 a2 a3 fa la d0 d1 d2 d3 fb lb c0 c1 g0 g1 lc k0 k1 h0 h1 ld hrel
                have a0 := HJ2.out.a.c0
                have a1 := HJ2.out.a.c1
                have a2 := HJ2.out.a.c2
                have a3 := HJ2.out.a.c3
                have fa := HJ2.out.a.f
                have la := HJ2.out.a.lt
                have d0 := HJ2.out.b.c0
                have d1 := HJ2.out.b.c1
                have d2 := HJ2.out.b.c2
                have d3 := HJ2.out.b.c3
                have fb := HJ2.out.b.f
                have lb := HJ2.out.b.lt
                have c0 := HJ2.out.c.c0
                have c1 := HJ2.out.c.c1
                have g0 := HJ2.out.c.f0
                have g1 := HJ2.out.c.f1
                have lc := HJ2.out.c.lt
                have k0 := HJ2.out.d.c0
                have k1 := HJ2.out.d.c1
                have h0 := HJ2.out.d.f0
                have h1 := HJ2.out.d.f1
                have ld := HJ2.out.d.lt
                have hx := HJ2.out.x
                have hres := RES2.out
                have HRS := Lib.hid hres
                have HQB := Lib.hid (show 0 < 9007199254740992 by decide)
                have HPB := Lib.hid (show m * 2 ^ 11 < 42535295865117307932921825928971026432 by rw [p11]; omega)
                have hpos : 0 < m * 2 ^ 11 := by rw [p11]; have := HFR.out.2; omega
                have HPO := Lib.hid hpos
                clear hres HJ2 hpos
                have hS : ∀ W W', Ext W W' → (fun W => (W.cell? ⟨A, 1, none⟩ = some (.bool s) ∧ W.cell? ⟨B, 1, none⟩ = some (.bool t) ∧ W.cell? ⟨A, 3, none⟩ = some (.int .i64 E) ∧ W.cell? ⟨C, 0, none⟩ = some (.int .i64 p) ∧ W.cell? ⟨C, 1, none⟩ = some (.int .i64 q) ∧ W.cell? ⟨D, 0, none⟩ = some (.int .i64 0) ∧ W.cell? ⟨D, 1, none⟩ = some (.int .i64 0)) ∧ Ext w W) W → (fun W => (W.cell? ⟨A, 1, none⟩ = some (.bool s) ∧ W.cell? ⟨B, 1, none⟩ = some (.bool t) ∧ W.cell? ⟨A, 3, none⟩ = some (.int .i64 E) ∧ W.cell? ⟨C, 0, none⟩ = some (.int .i64 p) ∧ W.cell? ⟨C, 1, none⟩ = some (.int .i64 q) ∧ W.cell? ⟨D, 0, none⟩ = some (.int .i64 0) ∧ W.cell? ⟨D, 1, none⟩ = some (.int .i64 0)) ∧ Ext w W) W' := fun W W' hx h => ⟨⟨ext_keeps hx h.1.1, ext_keeps hx h.1.2.1, ext_keeps hx h.1.2.2.1, ext_keeps hx h.1.2.2.2.1, ext_keeps hx h.1.2.2.2.2.1, ext_keeps hx h.1.2.2.2.2.2.1, ext_keeps hx h.1.2.2.2.2.2.2⟩, h.2.trans hx⟩
                by_cases hst : s = t
                · have hb : (s == t) = true := by rw [beq_iff_eq]; exact hst
                  have hadd := addN (m * 2 ^ 11) (0) HQB.out
                  rw [← HPV.out.1, ← HPV.out.2] at hadd
                  have hrn := (show RndN s (lo ((m * 2 ^ 11 + 0 : Nat) : Int)) (hi ((m * 2 ^ 11 + 0 : Nat) : Int)) E true res by rw [HRS.out, ← hst, HEE.out]; exact far_c s hm HFR.out.2 hn HN0.out HFR.out.1 u1 l2)
                  obtain ⟨x1, hx1⟩ : ∃ x, x = lo ((m * 2 ^ 11 + 0 : Nat) : Int) := ⟨_, rfl⟩
                  obtain ⟨x2, hx2⟩ : ∃ x, x = hi ((m * 2 ^ 11 + 0 : Nat) : Int) := ⟨_, rfl⟩
                  rw [← hx1, ← hx2] at hadd hrn
                  have HA := Lib.hid (show ∀ W, (W.cell? ⟨A, 1, none⟩ = some (.bool s) ∧ W.cell? ⟨B, 1, none⟩ = some (.bool t) ∧ W.cell? ⟨A, 3, none⟩ = some (.int .i64 E) ∧ W.cell? ⟨C, 0, none⟩ = some (.int .i64 p) ∧ W.cell? ⟨C, 1, none⟩ = some (.int .i64 q) ∧ W.cell? ⟨D, 0, none⟩ = some (.int .i64 0) ∧ W.cell? ⟨D, 1, none⟩ = some (.int .i64 0)) ∧ Ext w W → Calls Tryz.prog 35 #[.agg #[.int .i64 p, .int .i64 q], .agg #[.int .i64 0, .int .i64 0]] W (fun e w' => e = .returned (.agg #[.int .i64 x1, .int .i64 x2]) ∧ ((w'.cell? ⟨A, 1, none⟩ = some (.bool s) ∧ w'.cell? ⟨B, 1, none⟩ = some (.bool t) ∧ w'.cell? ⟨A, 3, none⟩ = some (.int .i64 E) ∧ w'.cell? ⟨C, 0, none⟩ = some (.int .i64 p) ∧ w'.cell? ⟨C, 1, none⟩ = some (.int .i64 q) ∧ w'.cell? ⟨D, 0, none⟩ = some (.int .i64 0) ∧ w'.cell? ⟨D, 1, none⟩ = some (.int .i64 0)) ∧ Ext w w')) from held_call (fun W => (W.cell? ⟨A, 1, none⟩ = some (.bool s) ∧ W.cell? ⟨B, 1, none⟩ = some (.bool t) ∧ W.cell? ⟨A, 3, none⟩ = some (.int .i64 E) ∧ W.cell? ⟨C, 0, none⟩ = some (.int .i64 p) ∧ W.cell? ⟨C, 1, none⟩ = some (.int .i64 q) ∧ W.cell? ⟨D, 0, none⟩ = some (.int .i64 0) ∧ W.cell? ⟨D, 1, none⟩ = some (.int .i64 0)) ∧ Ext w W) hS hadd)
                  have HR := Lib.hid (show ∀ W, (W.cell? ⟨A, 1, none⟩ = some (.bool s) ∧ W.cell? ⟨B, 1, none⟩ = some (.bool t) ∧ W.cell? ⟨A, 3, none⟩ = some (.int .i64 E) ∧ W.cell? ⟨C, 0, none⟩ = some (.int .i64 p) ∧ W.cell? ⟨C, 1, none⟩ = some (.int .i64 q) ∧ W.cell? ⟨D, 0, none⟩ = some (.int .i64 0) ∧ W.cell? ⟨D, 1, none⟩ = some (.int .i64 0)) ∧ Ext w W → Calls Tryz.prog 82 #[.bool s, .agg #[.int .i64 x1, .int .i64 x2], .int .i64 E, .bool true] W (fun e w' => e = .returned (.int .i64 res) ∧ ((w'.cell? ⟨A, 1, none⟩ = some (.bool s) ∧ w'.cell? ⟨B, 1, none⟩ = some (.bool t) ∧ w'.cell? ⟨A, 3, none⟩ = some (.int .i64 E) ∧ w'.cell? ⟨C, 0, none⟩ = some (.int .i64 p) ∧ w'.cell? ⟨C, 1, none⟩ = some (.int .i64 q) ∧ w'.cell? ⟨D, 0, none⟩ = some (.int .i64 0) ∧ w'.cell? ⟨D, 1, none⟩ = some (.int .i64 0)) ∧ Ext w w')) from held_call (fun W => (W.cell? ⟨A, 1, none⟩ = some (.bool s) ∧ W.cell? ⟨B, 1, none⟩ = some (.bool t) ∧ W.cell? ⟨A, 3, none⟩ = some (.int .i64 E) ∧ W.cell? ⟨C, 0, none⟩ = some (.int .i64 p) ∧ W.cell? ⟨C, 1, none⟩ = some (.int .i64 q) ∧ W.cell? ⟨D, 0, none⟩ = some (.int .i64 0) ∧ W.cell? ⟨D, 1, none⟩ = some (.int .i64 0)) ∧ Ext w W) hS hrn)
                  clear hadd hrn hx1 hx2 hS hst
                  go_wp2_with fail
                  go_region_held3 (fun W => (W.cell? ⟨A, 1, none⟩ = some (.bool s) ∧ W.cell? ⟨B, 1, none⟩ = some (.bool t) ∧ W.cell? ⟨A, 3, none⟩ = some (.int .i64 E) ∧ W.cell? ⟨C, 0, none⟩ = some (.int .i64 p) ∧ W.cell? ⟨C, 1, none⟩ = some (.int .i64 q) ∧ W.cell? ⟨D, 0, none⟩ = some (.int .i64 0) ∧ W.cell? ⟨D, 1, none⟩ = some (.int .i64 0)) ∧ Ext w W) (first | exact ⟨⟨a1, d1, a3, c0, c1, k0, k1⟩, hx⟩ | exact ⟨⟨a1, d1, a3, c0, c1, k0, k1⟩, hx.drew⟩ | exact hy | assumption)
                    (first | (go_at_call 35; (with_reducible refine (HA.out _ ?_).mono ?_); assumption; rintro e w' ⟨rfl, hy⟩) | (go_at_call 82; (with_reducible refine (HR.out _ ?_).mono ?_); assumption; rintro e w' ⟨rfl, hy⟩))
                  all_goals
                    go_wp2_with fail
                    go_ret
                    exact ⟨rfl, hy.2⟩
                · exact absurd HSS.out hst
            · have hbn : (s != t) = true := by rw [bne_iff_ne]; exact hss
              have hb : (s == t) = false := by rw [beq_eq_false_iff_ne]; exact hss
              have HSS := Lib.hid hss
              clear hss
              go_upto_region 12 with fail
              go_upto_region 13 with fail
              go_upto_region 14 with fail
              have HQ3 := Lib.hid (HJ.out.setQ HZ.out 0 0)
              generalize (wr.setCell ⟨D, 0, none⟩ (.int .i64 0)).setCell ⟨D, 1, none⟩ (.int .i64 0) = W3 at *
              clear a0 a1 a2 a3 fa la d0 d1 d2 d3 fb lb c0 c1 g0 g1 lc k0 k1 h0 h1 ld
              have a0 := HQ3.out.a.c0
              have a1 := HQ3.out.a.c1
              have a2 := HQ3.out.a.c2
              have a3 := HQ3.out.a.c3
              have fa := HQ3.out.a.f
              have la := HQ3.out.a.lt
              have d0 := HQ3.out.b.c0
              have d1 := HQ3.out.b.c1
              have d2 := HQ3.out.b.c2
              have d3 := HQ3.out.b.c3
              have fb := HQ3.out.b.f
              have lb := HQ3.out.b.lt
              have c0 := HQ3.out.c.c0
              have c1 := HQ3.out.c.c1
              have g0 := HQ3.out.c.f0
              have g1 := HQ3.out.c.f1
              have lc := HQ3.out.c.lt
              have k0 := HQ3.out.d.c0
              have k1 := HQ3.out.d.c1
              have h0 := HQ3.out.d.f0
              have h1 := HQ3.out.d.f1
              have ld := HQ3.out.d.lt
              have H3 := (HQ3.out.setQ HZ.out 1 0).setB HZ.out E
              go_wp2_with fail
              go_loopw [] (fun wr => RowKit.Hid (Au w wr A B C D s m E t n E p q 1 0)) (fun _ => 0)
              case atStart => exact Lib.hid H3
              case round =>
                have HJ2 := hrel
                clear H3 a0 a1 a2 a3 fa la d0 d1 d2 d3 fb lb c0 c1 g0 g1 lc k0 k1 h0 h1 ld hrel
                have a0 := HJ2.out.a.c0
                have a1 := HJ2.out.a.c1
                have a2 := HJ2.out.a.c2
                have a3 := HJ2.out.a.c3
                have fa := HJ2.out.a.f
                have la := HJ2.out.a.lt
                have d0 := HJ2.out.b.c0
                have d1 := HJ2.out.b.c1
                have d2 := HJ2.out.b.c2
                have d3 := HJ2.out.b.c3
                have fb := HJ2.out.b.f
                have lb := HJ2.out.b.lt
                have c0 := HJ2.out.c.c0
                have c1 := HJ2.out.c.c1
                have g0 := HJ2.out.c.f0
                have g1 := HJ2.out.c.f1
                have lc := HJ2.out.c.lt
                have k0 := HJ2.out.d.c0
                have k1 := HJ2.out.d.c1
                have h0 := HJ2.out.d.f0
                have h1 := HJ2.out.d.f1
                have ld := HJ2.out.d.lt
                have hx := HJ2.out.x
                have hres := RES2.out
                have HRS := Lib.hid hres
                have HQB := Lib.hid (show 1 < 9007199254740992 by decide)
                have HPB := Lib.hid (show m * 2 ^ 11 < 42535295865117307932921825928971026432 by rw [p11]; omega)
                have hpos : 1 < m * 2 ^ 11 := by rw [p11]; have := HFR.out.2; omega
                have HPO := Lib.hid hpos
                clear hres HJ2 hpos
                have hS : ∀ W W', Ext W W' → (fun W => (W.cell? ⟨A, 1, none⟩ = some (.bool s) ∧ W.cell? ⟨B, 1, none⟩ = some (.bool t) ∧ W.cell? ⟨A, 3, none⟩ = some (.int .i64 E) ∧ W.cell? ⟨C, 0, none⟩ = some (.int .i64 p) ∧ W.cell? ⟨C, 1, none⟩ = some (.int .i64 q) ∧ W.cell? ⟨D, 0, none⟩ = some (.int .i64 1) ∧ W.cell? ⟨D, 1, none⟩ = some (.int .i64 0)) ∧ Ext w W) W → (fun W => (W.cell? ⟨A, 1, none⟩ = some (.bool s) ∧ W.cell? ⟨B, 1, none⟩ = some (.bool t) ∧ W.cell? ⟨A, 3, none⟩ = some (.int .i64 E) ∧ W.cell? ⟨C, 0, none⟩ = some (.int .i64 p) ∧ W.cell? ⟨C, 1, none⟩ = some (.int .i64 q) ∧ W.cell? ⟨D, 0, none⟩ = some (.int .i64 1) ∧ W.cell? ⟨D, 1, none⟩ = some (.int .i64 0)) ∧ Ext w W) W' := fun W W' hx h => ⟨⟨ext_keeps hx h.1.1, ext_keeps hx h.1.2.1, ext_keeps hx h.1.2.2.1, ext_keeps hx h.1.2.2.2.1, ext_keeps hx h.1.2.2.2.2.1, ext_keeps hx h.1.2.2.2.2.2.1, ext_keeps hx h.1.2.2.2.2.2.2⟩, h.2.trans hx⟩
                by_cases hst : s = t
                · exact absurd hst HSS.out
                · have hb : (s == t) = false := by rw [beq_eq_false_iff_ne]; exact hst
                  by_cases hg : 1 < m * 2 ^ 11
                  · have heq := eqN (m * 2 ^ 11) (1) HPB.out HQB.out false (by rw [decide_eq_false_iff_not]; omega)
                    rw [← HPV.out.1, ← HPV.out.2] at heq
                    have heq : (p == 1 && q == 0) = false := heq
                    have hle := lessN (m * 2 ^ 11) (1) HPB.out HQB.out false (by rw [decide_eq_false_iff_not]; omega)
                    have hne := negQ (1) HQB.out
                    have had := addPQ (m * 2 ^ 11) (1) (Nat.le_of_lt hg)
                    have hrn := (show RndN s (lo ((m * 2 ^ 11 - 1 : Nat) : Int)) (hi ((m * 2 ^ 11 - 1 : Nat) : Int)) E true res by rw [HRS.out, HEE.out]; exact far_d s t hst hm HFR.out.2 hn HN0.out HFR.out.1 u1 l2)
                    rw [← HPV.out.1, ← HPV.out.2] at hle had
                    obtain ⟨y1, hy1⟩ : ∃ x, x = lo (-((1 : Nat) : Int)) := ⟨_, rfl⟩
                    obtain ⟨y2, hy2⟩ : ∃ x, x = hi (-((1 : Nat) : Int)) := ⟨_, rfl⟩
                    obtain ⟨x1, hx1⟩ : ∃ x, x = lo ((m * 2 ^ 11 - 1 : Nat) : Int) := ⟨_, rfl⟩
                    obtain ⟨x2, hx2⟩ : ∃ x, x = hi ((m * 2 ^ 11 - 1 : Nat) : Int) := ⟨_, rfl⟩
                    rw [← hy1, ← hy2] at hne had
                    rw [← hx1, ← hx2] at had hrn
                    have HLE := Lib.hid hle
                    have HN := Lib.hid (show ∀ W, (W.cell? ⟨A, 1, none⟩ = some (.bool s) ∧ W.cell? ⟨B, 1, none⟩ = some (.bool t) ∧ W.cell? ⟨A, 3, none⟩ = some (.int .i64 E) ∧ W.cell? ⟨C, 0, none⟩ = some (.int .i64 p) ∧ W.cell? ⟨C, 1, none⟩ = some (.int .i64 q) ∧ W.cell? ⟨D, 0, none⟩ = some (.int .i64 1) ∧ W.cell? ⟨D, 1, none⟩ = some (.int .i64 0)) ∧ Ext w W → Calls Tryz.prog 22 #[.agg #[.int .i64 1, .int .i64 0]] W (fun e w' => e = .returned (.agg #[.int .i64 y1, .int .i64 y2]) ∧ ((w'.cell? ⟨A, 1, none⟩ = some (.bool s) ∧ w'.cell? ⟨B, 1, none⟩ = some (.bool t) ∧ w'.cell? ⟨A, 3, none⟩ = some (.int .i64 E) ∧ w'.cell? ⟨C, 0, none⟩ = some (.int .i64 p) ∧ w'.cell? ⟨C, 1, none⟩ = some (.int .i64 q) ∧ w'.cell? ⟨D, 0, none⟩ = some (.int .i64 1) ∧ w'.cell? ⟨D, 1, none⟩ = some (.int .i64 0)) ∧ Ext w w')) from held_call (fun W => (W.cell? ⟨A, 1, none⟩ = some (.bool s) ∧ W.cell? ⟨B, 1, none⟩ = some (.bool t) ∧ W.cell? ⟨A, 3, none⟩ = some (.int .i64 E) ∧ W.cell? ⟨C, 0, none⟩ = some (.int .i64 p) ∧ W.cell? ⟨C, 1, none⟩ = some (.int .i64 q) ∧ W.cell? ⟨D, 0, none⟩ = some (.int .i64 1) ∧ W.cell? ⟨D, 1, none⟩ = some (.int .i64 0)) ∧ Ext w W) hS hne)
                    have HA := Lib.hid (show ∀ W, (W.cell? ⟨A, 1, none⟩ = some (.bool s) ∧ W.cell? ⟨B, 1, none⟩ = some (.bool t) ∧ W.cell? ⟨A, 3, none⟩ = some (.int .i64 E) ∧ W.cell? ⟨C, 0, none⟩ = some (.int .i64 p) ∧ W.cell? ⟨C, 1, none⟩ = some (.int .i64 q) ∧ W.cell? ⟨D, 0, none⟩ = some (.int .i64 1) ∧ W.cell? ⟨D, 1, none⟩ = some (.int .i64 0)) ∧ Ext w W → Calls Tryz.prog 35 #[.agg #[.int .i64 p, .int .i64 q], .agg #[.int .i64 y1, .int .i64 y2]] W (fun e w' => e = .returned (.agg #[.int .i64 x1, .int .i64 x2]) ∧ ((w'.cell? ⟨A, 1, none⟩ = some (.bool s) ∧ w'.cell? ⟨B, 1, none⟩ = some (.bool t) ∧ w'.cell? ⟨A, 3, none⟩ = some (.int .i64 E) ∧ w'.cell? ⟨C, 0, none⟩ = some (.int .i64 p) ∧ w'.cell? ⟨C, 1, none⟩ = some (.int .i64 q) ∧ w'.cell? ⟨D, 0, none⟩ = some (.int .i64 1) ∧ w'.cell? ⟨D, 1, none⟩ = some (.int .i64 0)) ∧ Ext w w')) from held_call (fun W => (W.cell? ⟨A, 1, none⟩ = some (.bool s) ∧ W.cell? ⟨B, 1, none⟩ = some (.bool t) ∧ W.cell? ⟨A, 3, none⟩ = some (.int .i64 E) ∧ W.cell? ⟨C, 0, none⟩ = some (.int .i64 p) ∧ W.cell? ⟨C, 1, none⟩ = some (.int .i64 q) ∧ W.cell? ⟨D, 0, none⟩ = some (.int .i64 1) ∧ W.cell? ⟨D, 1, none⟩ = some (.int .i64 0)) ∧ Ext w W) hS had)
                    have HR := Lib.hid (show ∀ W, (W.cell? ⟨A, 1, none⟩ = some (.bool s) ∧ W.cell? ⟨B, 1, none⟩ = some (.bool t) ∧ W.cell? ⟨A, 3, none⟩ = some (.int .i64 E) ∧ W.cell? ⟨C, 0, none⟩ = some (.int .i64 p) ∧ W.cell? ⟨C, 1, none⟩ = some (.int .i64 q) ∧ W.cell? ⟨D, 0, none⟩ = some (.int .i64 1) ∧ W.cell? ⟨D, 1, none⟩ = some (.int .i64 0)) ∧ Ext w W → Calls Tryz.prog 82 #[.bool s, .agg #[.int .i64 x1, .int .i64 x2], .int .i64 E, .bool true] W (fun e w' => e = .returned (.int .i64 res) ∧ ((w'.cell? ⟨A, 1, none⟩ = some (.bool s) ∧ w'.cell? ⟨B, 1, none⟩ = some (.bool t) ∧ w'.cell? ⟨A, 3, none⟩ = some (.int .i64 E) ∧ w'.cell? ⟨C, 0, none⟩ = some (.int .i64 p) ∧ w'.cell? ⟨C, 1, none⟩ = some (.int .i64 q) ∧ w'.cell? ⟨D, 0, none⟩ = some (.int .i64 1) ∧ w'.cell? ⟨D, 1, none⟩ = some (.int .i64 0)) ∧ Ext w w')) from held_call (fun W => (W.cell? ⟨A, 1, none⟩ = some (.bool s) ∧ W.cell? ⟨B, 1, none⟩ = some (.bool t) ∧ W.cell? ⟨A, 3, none⟩ = some (.int .i64 E) ∧ W.cell? ⟨C, 0, none⟩ = some (.int .i64 p) ∧ W.cell? ⟨C, 1, none⟩ = some (.int .i64 q) ∧ W.cell? ⟨D, 0, none⟩ = some (.int .i64 1) ∧ W.cell? ⟨D, 1, none⟩ = some (.int .i64 0)) ∧ Ext w W) hS hrn)
                    clear hne had hrn hx1 hx2 hy1 hy2 hS hst hg hle
                    go_wp2_with fail
                    refine (HLE.out _).mono ?_
                    rintro e w3 ⟨rfl, hx3⟩
                    have a1 := ext_keeps hx3 a1
                    have d1 := ext_keeps hx3 d1
                    have a3 := ext_keeps hx3 a3
                    have c0 := ext_keeps hx3 c0
                    have c1 := ext_keeps hx3 c1
                    have k0 := ext_keeps hx3 k0
                    have k1 := ext_keeps hx3 k1
                    have hx := hx.trans hx3
                    clear hx3
                    go_wp2_with fail
                    go_region_held3 (fun W => (W.cell? ⟨A, 1, none⟩ = some (.bool s) ∧ W.cell? ⟨B, 1, none⟩ = some (.bool t) ∧ W.cell? ⟨A, 3, none⟩ = some (.int .i64 E) ∧ W.cell? ⟨C, 0, none⟩ = some (.int .i64 p) ∧ W.cell? ⟨C, 1, none⟩ = some (.int .i64 q) ∧ W.cell? ⟨D, 0, none⟩ = some (.int .i64 1) ∧ W.cell? ⟨D, 1, none⟩ = some (.int .i64 0)) ∧ Ext w W) (first | exact ⟨⟨a1, d1, a3, c0, c1, k0, k1⟩, hx⟩ | exact ⟨⟨a1, d1, a3, c0, c1, k0, k1⟩, hx.drew⟩ | exact hy | assumption)
                      (first | (go_at_call 22; (with_reducible refine (HN.out _ ?_).mono ?_); assumption; rintro e w' ⟨rfl, hy⟩) | (go_at_call 35; (with_reducible refine (HA.out _ ?_).mono ?_); assumption; rintro e w' ⟨rfl, hy⟩) | (go_at_call 82; (with_reducible refine (HR.out _ ?_).mono ?_); assumption; rintro e w' ⟨rfl, hy⟩))
                    all_goals
                      go_wp2_with fail
                      go_ret
                      exact ⟨rfl, hy.2⟩
                  · exact absurd HPO.out hg
    · obtain ⟨d, hd⟩ : ∃ d : Nat, e1 - e2 = (d : Int) := ⟨(e1 - e2).toNat, by omega⟩
      have HDN := Lib.hid (And.intro hd (And.intro (show (e1 - e2).toNat = d by omega) (show d ≤ 64 by omega)))
      clear hd
      go_wp2_with fail
      have H0 := Lib.hid (show Au w V2 A B C D s m e1 t n e2 (lo ((m * 2 ^ 0 : Nat) : Int)) (hi ((m * 2 ^ 0 : Nat) : Int)) n 0 by
        rw [Nat.pow_zero, Nat.mul_one, (lo_of m (by assumption)).1, (lo_of m (by assumption)).2]
        exact HAU.out)
      clear a0 a1 a2 a3 fa la d0 d1 d2 d3 fb lb c0 c1 g0 g1 lc k0 k1 h0 h1 ld HAU w3
      go_loopw [] (fun wr => ∃ (k : Nat) (E p q : Int), k ≤ d ∧ RowKit.Hid (E = e1 - (k : Int) ∧ p = lo ((m * 2 ^ k : Nat) : Int) ∧ q = hi ((m * 2 ^ k : Nat) : Int)) ∧ RowKit.Hid (Au w wr A B C D s m E t n e2 p q n 0)) (fun wr => (eAt wr A + 2000).toNat)
      case atStart => exact ⟨0, _, _, _, Nat.zero_le _, Lib.hid ⟨by simp, rfl, rfl⟩, H0⟩
      case round =>
        obtain ⟨k, E, p, q, hk, HE, HJ⟩ := hrel
        clear H0
        have a0 := HJ.out.a.c0
        have a1 := HJ.out.a.c1
        have a2 := HJ.out.a.c2
        have a3 := HJ.out.a.c3
        have fa := HJ.out.a.f
        have la := HJ.out.a.lt
        have d0 := HJ.out.b.c0
        have d1 := HJ.out.b.c1
        have d2 := HJ.out.b.c2
        have d3 := HJ.out.b.c3
        have fb := HJ.out.b.f
        have lb := HJ.out.b.lt
        have c0 := HJ.out.c.c0
        have c1 := HJ.out.c.c1
        have g0 := HJ.out.c.f0
        have g1 := HJ.out.c.f1
        have lc := HJ.out.c.lt
        have k0 := HJ.out.d.c0
        have k1 := HJ.out.d.c1
        have h0 := HJ.out.d.f0
        have h1 := HJ.out.d.f1
        have ld := HJ.out.d.lt
        by_cases hlt2 : k < d
        · have hE1 : e2 < E := by have := HE.out.1; have := HDN.out.1; omega
          have hE2 : wrap64 (E - 1) = E - 1 := by have := HE.out.1; have := HDN.out; unfold wrap64; omega
          have ht := fun W => twice_pow m k W
          rw [← HE.out.2.1, ← HE.out.2.2] at ht
          obtain ⟨p', hp'⟩ : ∃ x, x = lo ((m * 2 ^ (k + 1) : Nat) : Int) := ⟨_, rfl⟩
          obtain ⟨q', hq'⟩ : ∃ x, x = hi ((m * 2 ^ (k + 1) : Nat) : Int) := ⟨_, rfl⟩
          rw [← hp', ← hq'] at ht
          have HT := Lib.hid ht
          have HE2 := Lib.hid (show E - 1 = e1 - ((k + 1 : Nat) : Int) ∧ p' = lo ((m * 2 ^ (k + 1) : Nat) : Int) ∧ q' = hi ((m * 2 ^ (k + 1) : Nat) : Int) from ⟨by have := HE.out.1; omega, hp', hq'⟩)
          have hEA := HJ.out.a.eAt
          have hElo : -1074 ≤ E := by have := HE.out.1; have := HDN.out.1; omega
          clear ht hp' hq'
          go_wp2_with fail
          refine (HT.out _).mono ?_
          rintro e w' ⟨rfl, hx1⟩
          have H2 := Lib.hid (HJ.out.ext hx1)
          clear a0 a1 a2 a3 fa la d0 d1 d2 d3 fb lb c0 c1 g0 g1 lc k0 k1 h0 h1 ld hx1 HT
          have a0 := H2.out.a.c0
          have a1 := H2.out.a.c1
          have a2 := H2.out.a.c2
          have a3 := H2.out.a.c3
          have fa := H2.out.a.f
          have la := H2.out.a.lt
          have d0 := H2.out.b.c0
          have d1 := H2.out.b.c1
          have d2 := H2.out.b.c2
          have d3 := H2.out.b.c3
          have fb := H2.out.b.f
          have lb := H2.out.b.lt
          have c0 := H2.out.c.c0
          have c1 := H2.out.c.c1
          have g0 := H2.out.c.f0
          have g1 := H2.out.c.f1
          have lc := H2.out.c.lt
          have k0 := H2.out.d.c0
          have k1 := H2.out.d.c1
          have h0 := H2.out.d.f0
          have h1 := H2.out.d.f1
          have ld := H2.out.d.lt
          go_wp2_with fail
          have H3 := (H2.out.setP HZ.out p' q').setA HZ.out (E - 1)
          go_roundw
          case rel => exact ⟨k + 1, E - 1, p', q', hlt2, HE2, Lib.hid H3⟩
          case measure =>
            rw [H3.a.eAt, hEA]
            omega
        · obtain rfl : k = d := by omega
          have hEj : e2 = E := by have := HE.out.1; have := HDN.out.1; omega
          subst hEj
          have HPV := Lib.hid HE.out.2
          have HQB := Lib.hid (show n < 9007199254740992 by assumption)
          have HPB := Lib.hid (show m * 2 ^ k < 42535295865117307932921825928971026432 by
            have h2 := Nat.pow_le_pow_right (show 0 < 2 by decide) HDN.out.2.2
            have h3 : m * 2 ^ k ≤ 9007199254740992 * 2 ^ 64 := Nat.mul_le_mul (by omega) h2
            exact Nat.lt_of_le_of_lt h3 (by decide))
          have hx := HJ.out.x
          have hres := RES2.out
          have hplace : -10000 ≤ e2 ∧ e2 ≤ 10000 := by omega
          have HPL := Lib.hid hplace
          have HLE0 := Lib.hid (show e2 ≤ e1 by assumption)
          have HRS := Lib.hid hres
          clear hres hplace HJ hlt2
          have hS : ∀ W W', Ext W W' → (fun W => (W.cell? ⟨A, 1, none⟩ = some (.bool s) ∧ W.cell? ⟨B, 1, none⟩ = some (.bool t) ∧ W.cell? ⟨A, 3, none⟩ = some (.int .i64 e2) ∧ W.cell? ⟨C, 0, none⟩ = some (.int .i64 p) ∧ W.cell? ⟨C, 1, none⟩ = some (.int .i64 q) ∧ W.cell? ⟨D, 0, none⟩ = some (.int .i64 (n : Int)) ∧ W.cell? ⟨D, 1, none⟩ = some (.int .i64 0)) ∧ Ext w W) W → (fun W => (W.cell? ⟨A, 1, none⟩ = some (.bool s) ∧ W.cell? ⟨B, 1, none⟩ = some (.bool t) ∧ W.cell? ⟨A, 3, none⟩ = some (.int .i64 e2) ∧ W.cell? ⟨C, 0, none⟩ = some (.int .i64 p) ∧ W.cell? ⟨C, 1, none⟩ = some (.int .i64 q) ∧ W.cell? ⟨D, 0, none⟩ = some (.int .i64 (n : Int)) ∧ W.cell? ⟨D, 1, none⟩ = some (.int .i64 0)) ∧ Ext w W) W' := fun W W' hx h => ⟨⟨ext_keeps hx h.1.1, ext_keeps hx h.1.2.1, ext_keeps hx h.1.2.2.1, ext_keeps hx h.1.2.2.2.1, ext_keeps hx h.1.2.2.2.2.1, ext_keeps hx h.1.2.2.2.2.2.1, ext_keeps hx h.1.2.2.2.2.2.2⟩, h.2.trans hx⟩
          by_cases hst : s = t
          · have hb : (s == t) = true := by rw [beq_iff_eq]; exact hst
            have hadd := addN (m * 2 ^ k) (n) HQB.out
            rw [← HPV.out.1, ← HPV.out.2] at hadd
            have hrn := (fun W => by have := rnd_exact s (m * 2 ^ k + n) (by have := HPB.out; have := HQB.out; have h2 := Nat.pow_le_pow_right (show 0 < 2 by decide) HDN.out.2.2; have h3 : m * 2 ^ k ≤ 9007199254740992 * 2 ^ 64 := Nat.mul_le_mul (by omega) h2; omega) e2 HPL.out W; rw [HRS.out, ← hst, addW_same s HLE0.out, HDN.out.2.1]; exact this : RndN s (lo ((m * 2 ^ k + n : Nat) : Int)) (hi ((m * 2 ^ k + n : Nat) : Int)) e2 false res)
            obtain ⟨x1, hx1⟩ : ∃ x, x = lo ((m * 2 ^ k + n : Nat) : Int) := ⟨_, rfl⟩
            obtain ⟨x2, hx2⟩ : ∃ x, x = hi ((m * 2 ^ k + n : Nat) : Int) := ⟨_, rfl⟩
            rw [← hx1, ← hx2] at hadd hrn
            have HA := Lib.hid (show ∀ W, (W.cell? ⟨A, 1, none⟩ = some (.bool s) ∧ W.cell? ⟨B, 1, none⟩ = some (.bool t) ∧ W.cell? ⟨A, 3, none⟩ = some (.int .i64 e2) ∧ W.cell? ⟨C, 0, none⟩ = some (.int .i64 p) ∧ W.cell? ⟨C, 1, none⟩ = some (.int .i64 q) ∧ W.cell? ⟨D, 0, none⟩ = some (.int .i64 (n : Int)) ∧ W.cell? ⟨D, 1, none⟩ = some (.int .i64 0)) ∧ Ext w W → Calls Tryz.prog 35 #[.agg #[.int .i64 p, .int .i64 q], .agg #[.int .i64 (n : Int), .int .i64 0]] W (fun e w' => e = .returned (.agg #[.int .i64 x1, .int .i64 x2]) ∧ ((w'.cell? ⟨A, 1, none⟩ = some (.bool s) ∧ w'.cell? ⟨B, 1, none⟩ = some (.bool t) ∧ w'.cell? ⟨A, 3, none⟩ = some (.int .i64 e2) ∧ w'.cell? ⟨C, 0, none⟩ = some (.int .i64 p) ∧ w'.cell? ⟨C, 1, none⟩ = some (.int .i64 q) ∧ w'.cell? ⟨D, 0, none⟩ = some (.int .i64 (n : Int)) ∧ w'.cell? ⟨D, 1, none⟩ = some (.int .i64 0)) ∧ Ext w w')) from held_call (fun W => (W.cell? ⟨A, 1, none⟩ = some (.bool s) ∧ W.cell? ⟨B, 1, none⟩ = some (.bool t) ∧ W.cell? ⟨A, 3, none⟩ = some (.int .i64 e2) ∧ W.cell? ⟨C, 0, none⟩ = some (.int .i64 p) ∧ W.cell? ⟨C, 1, none⟩ = some (.int .i64 q) ∧ W.cell? ⟨D, 0, none⟩ = some (.int .i64 (n : Int)) ∧ W.cell? ⟨D, 1, none⟩ = some (.int .i64 0)) ∧ Ext w W) hS hadd)
            have HR := Lib.hid (show ∀ W, (W.cell? ⟨A, 1, none⟩ = some (.bool s) ∧ W.cell? ⟨B, 1, none⟩ = some (.bool t) ∧ W.cell? ⟨A, 3, none⟩ = some (.int .i64 e2) ∧ W.cell? ⟨C, 0, none⟩ = some (.int .i64 p) ∧ W.cell? ⟨C, 1, none⟩ = some (.int .i64 q) ∧ W.cell? ⟨D, 0, none⟩ = some (.int .i64 (n : Int)) ∧ W.cell? ⟨D, 1, none⟩ = some (.int .i64 0)) ∧ Ext w W → Calls Tryz.prog 82 #[.bool s, .agg #[.int .i64 x1, .int .i64 x2], .int .i64 e2, .bool false] W (fun e w' => e = .returned (.int .i64 res) ∧ ((w'.cell? ⟨A, 1, none⟩ = some (.bool s) ∧ w'.cell? ⟨B, 1, none⟩ = some (.bool t) ∧ w'.cell? ⟨A, 3, none⟩ = some (.int .i64 e2) ∧ w'.cell? ⟨C, 0, none⟩ = some (.int .i64 p) ∧ w'.cell? ⟨C, 1, none⟩ = some (.int .i64 q) ∧ w'.cell? ⟨D, 0, none⟩ = some (.int .i64 (n : Int)) ∧ w'.cell? ⟨D, 1, none⟩ = some (.int .i64 0)) ∧ Ext w w')) from held_call (fun W => (W.cell? ⟨A, 1, none⟩ = some (.bool s) ∧ W.cell? ⟨B, 1, none⟩ = some (.bool t) ∧ W.cell? ⟨A, 3, none⟩ = some (.int .i64 e2) ∧ W.cell? ⟨C, 0, none⟩ = some (.int .i64 p) ∧ W.cell? ⟨C, 1, none⟩ = some (.int .i64 q) ∧ W.cell? ⟨D, 0, none⟩ = some (.int .i64 (n : Int)) ∧ W.cell? ⟨D, 1, none⟩ = some (.int .i64 0)) ∧ Ext w W) hS hrn)
            clear hadd hrn hx1 hx2 hS hst
            go_wp2_with fail
            go_region_held3 (fun W => (W.cell? ⟨A, 1, none⟩ = some (.bool s) ∧ W.cell? ⟨B, 1, none⟩ = some (.bool t) ∧ W.cell? ⟨A, 3, none⟩ = some (.int .i64 e2) ∧ W.cell? ⟨C, 0, none⟩ = some (.int .i64 p) ∧ W.cell? ⟨C, 1, none⟩ = some (.int .i64 q) ∧ W.cell? ⟨D, 0, none⟩ = some (.int .i64 (n : Int)) ∧ W.cell? ⟨D, 1, none⟩ = some (.int .i64 0)) ∧ Ext w W) (first | exact ⟨⟨a1, d1, a3, c0, c1, k0, k1⟩, hx⟩ | exact ⟨⟨a1, d1, a3, c0, c1, k0, k1⟩, hx.drew⟩ | exact hy | assumption)
              (first | (go_at_call 35; (with_reducible refine (HA.out _ ?_).mono ?_); assumption; rintro e w' ⟨rfl, hy⟩) | (go_at_call 82; (with_reducible refine (HR.out _ ?_).mono ?_); assumption; rintro e w' ⟨rfl, hy⟩))
            all_goals
              go_wp2_with fail
              go_ret
              exact ⟨rfl, hy.2⟩
          · have hb : (s == t) = false := by rw [beq_eq_false_iff_ne]; exact hst
            by_cases hg : n < m * 2 ^ k
            · have heq := eqN (m * 2 ^ k) (n) HPB.out HQB.out false (by rw [decide_eq_false_iff_not]; omega)
              rw [← HPV.out.1, ← HPV.out.2] at heq
              have heq : (p == (n : Int) && q == 0) = false := heq
              have hle := lessN (m * 2 ^ k) (n) HPB.out HQB.out false (by rw [decide_eq_false_iff_not]; omega)
              have hne := negQ (n) HQB.out
              have had := addPQ (m * 2 ^ k) (n) (Nat.le_of_lt hg)
              have hrn := (fun W => by have := rnd_exact s (m * 2 ^ k - n) (by have := HPB.out; omega) e2 HPL.out W; rw [HRS.out, addW_gt s t hst HLE0.out (by rw [HDN.out.2.1]; exact hg), HDN.out.2.1]; exact this : RndN s (lo ((m * 2 ^ k - n : Nat) : Int)) (hi ((m * 2 ^ k - n : Nat) : Int)) e2 false res)
              rw [← HPV.out.1, ← HPV.out.2] at hle had
              obtain ⟨y1, hy1⟩ : ∃ x, x = lo (-((n : Nat) : Int)) := ⟨_, rfl⟩
              obtain ⟨y2, hy2⟩ : ∃ x, x = hi (-((n : Nat) : Int)) := ⟨_, rfl⟩
              obtain ⟨x1, hx1⟩ : ∃ x, x = lo ((m * 2 ^ k - n : Nat) : Int) := ⟨_, rfl⟩
              obtain ⟨x2, hx2⟩ : ∃ x, x = hi ((m * 2 ^ k - n : Nat) : Int) := ⟨_, rfl⟩
              rw [← hy1, ← hy2] at hne had
              rw [← hx1, ← hx2] at had hrn
              have HLE := Lib.hid hle
              have HN := Lib.hid (show ∀ W, (W.cell? ⟨A, 1, none⟩ = some (.bool s) ∧ W.cell? ⟨B, 1, none⟩ = some (.bool t) ∧ W.cell? ⟨A, 3, none⟩ = some (.int .i64 e2) ∧ W.cell? ⟨C, 0, none⟩ = some (.int .i64 p) ∧ W.cell? ⟨C, 1, none⟩ = some (.int .i64 q) ∧ W.cell? ⟨D, 0, none⟩ = some (.int .i64 (n : Int)) ∧ W.cell? ⟨D, 1, none⟩ = some (.int .i64 0)) ∧ Ext w W → Calls Tryz.prog 22 #[.agg #[.int .i64 (n : Int), .int .i64 0]] W (fun e w' => e = .returned (.agg #[.int .i64 y1, .int .i64 y2]) ∧ ((w'.cell? ⟨A, 1, none⟩ = some (.bool s) ∧ w'.cell? ⟨B, 1, none⟩ = some (.bool t) ∧ w'.cell? ⟨A, 3, none⟩ = some (.int .i64 e2) ∧ w'.cell? ⟨C, 0, none⟩ = some (.int .i64 p) ∧ w'.cell? ⟨C, 1, none⟩ = some (.int .i64 q) ∧ w'.cell? ⟨D, 0, none⟩ = some (.int .i64 (n : Int)) ∧ w'.cell? ⟨D, 1, none⟩ = some (.int .i64 0)) ∧ Ext w w')) from held_call (fun W => (W.cell? ⟨A, 1, none⟩ = some (.bool s) ∧ W.cell? ⟨B, 1, none⟩ = some (.bool t) ∧ W.cell? ⟨A, 3, none⟩ = some (.int .i64 e2) ∧ W.cell? ⟨C, 0, none⟩ = some (.int .i64 p) ∧ W.cell? ⟨C, 1, none⟩ = some (.int .i64 q) ∧ W.cell? ⟨D, 0, none⟩ = some (.int .i64 (n : Int)) ∧ W.cell? ⟨D, 1, none⟩ = some (.int .i64 0)) ∧ Ext w W) hS hne)
              have HA := Lib.hid (show ∀ W, (W.cell? ⟨A, 1, none⟩ = some (.bool s) ∧ W.cell? ⟨B, 1, none⟩ = some (.bool t) ∧ W.cell? ⟨A, 3, none⟩ = some (.int .i64 e2) ∧ W.cell? ⟨C, 0, none⟩ = some (.int .i64 p) ∧ W.cell? ⟨C, 1, none⟩ = some (.int .i64 q) ∧ W.cell? ⟨D, 0, none⟩ = some (.int .i64 (n : Int)) ∧ W.cell? ⟨D, 1, none⟩ = some (.int .i64 0)) ∧ Ext w W → Calls Tryz.prog 35 #[.agg #[.int .i64 p, .int .i64 q], .agg #[.int .i64 y1, .int .i64 y2]] W (fun e w' => e = .returned (.agg #[.int .i64 x1, .int .i64 x2]) ∧ ((w'.cell? ⟨A, 1, none⟩ = some (.bool s) ∧ w'.cell? ⟨B, 1, none⟩ = some (.bool t) ∧ w'.cell? ⟨A, 3, none⟩ = some (.int .i64 e2) ∧ w'.cell? ⟨C, 0, none⟩ = some (.int .i64 p) ∧ w'.cell? ⟨C, 1, none⟩ = some (.int .i64 q) ∧ w'.cell? ⟨D, 0, none⟩ = some (.int .i64 (n : Int)) ∧ w'.cell? ⟨D, 1, none⟩ = some (.int .i64 0)) ∧ Ext w w')) from held_call (fun W => (W.cell? ⟨A, 1, none⟩ = some (.bool s) ∧ W.cell? ⟨B, 1, none⟩ = some (.bool t) ∧ W.cell? ⟨A, 3, none⟩ = some (.int .i64 e2) ∧ W.cell? ⟨C, 0, none⟩ = some (.int .i64 p) ∧ W.cell? ⟨C, 1, none⟩ = some (.int .i64 q) ∧ W.cell? ⟨D, 0, none⟩ = some (.int .i64 (n : Int)) ∧ W.cell? ⟨D, 1, none⟩ = some (.int .i64 0)) ∧ Ext w W) hS had)
              have HR := Lib.hid (show ∀ W, (W.cell? ⟨A, 1, none⟩ = some (.bool s) ∧ W.cell? ⟨B, 1, none⟩ = some (.bool t) ∧ W.cell? ⟨A, 3, none⟩ = some (.int .i64 e2) ∧ W.cell? ⟨C, 0, none⟩ = some (.int .i64 p) ∧ W.cell? ⟨C, 1, none⟩ = some (.int .i64 q) ∧ W.cell? ⟨D, 0, none⟩ = some (.int .i64 (n : Int)) ∧ W.cell? ⟨D, 1, none⟩ = some (.int .i64 0)) ∧ Ext w W → Calls Tryz.prog 82 #[.bool s, .agg #[.int .i64 x1, .int .i64 x2], .int .i64 e2, .bool false] W (fun e w' => e = .returned (.int .i64 res) ∧ ((w'.cell? ⟨A, 1, none⟩ = some (.bool s) ∧ w'.cell? ⟨B, 1, none⟩ = some (.bool t) ∧ w'.cell? ⟨A, 3, none⟩ = some (.int .i64 e2) ∧ w'.cell? ⟨C, 0, none⟩ = some (.int .i64 p) ∧ w'.cell? ⟨C, 1, none⟩ = some (.int .i64 q) ∧ w'.cell? ⟨D, 0, none⟩ = some (.int .i64 (n : Int)) ∧ w'.cell? ⟨D, 1, none⟩ = some (.int .i64 0)) ∧ Ext w w')) from held_call (fun W => (W.cell? ⟨A, 1, none⟩ = some (.bool s) ∧ W.cell? ⟨B, 1, none⟩ = some (.bool t) ∧ W.cell? ⟨A, 3, none⟩ = some (.int .i64 e2) ∧ W.cell? ⟨C, 0, none⟩ = some (.int .i64 p) ∧ W.cell? ⟨C, 1, none⟩ = some (.int .i64 q) ∧ W.cell? ⟨D, 0, none⟩ = some (.int .i64 (n : Int)) ∧ W.cell? ⟨D, 1, none⟩ = some (.int .i64 0)) ∧ Ext w W) hS hrn)
              clear hne had hrn hx1 hx2 hy1 hy2 hS hst hg hle
              go_wp2_with fail
              refine (HLE.out _).mono ?_
              rintro e w3 ⟨rfl, hx3⟩
              have a1 := ext_keeps hx3 a1
              have d1 := ext_keeps hx3 d1
              have a3 := ext_keeps hx3 a3
              have c0 := ext_keeps hx3 c0
              have c1 := ext_keeps hx3 c1
              have k0 := ext_keeps hx3 k0
              have k1 := ext_keeps hx3 k1
              have hx := hx.trans hx3
              clear hx3
              go_wp2_with fail
              go_region_held3 (fun W => (W.cell? ⟨A, 1, none⟩ = some (.bool s) ∧ W.cell? ⟨B, 1, none⟩ = some (.bool t) ∧ W.cell? ⟨A, 3, none⟩ = some (.int .i64 e2) ∧ W.cell? ⟨C, 0, none⟩ = some (.int .i64 p) ∧ W.cell? ⟨C, 1, none⟩ = some (.int .i64 q) ∧ W.cell? ⟨D, 0, none⟩ = some (.int .i64 (n : Int)) ∧ W.cell? ⟨D, 1, none⟩ = some (.int .i64 0)) ∧ Ext w W) (first | exact ⟨⟨a1, d1, a3, c0, c1, k0, k1⟩, hx⟩ | exact ⟨⟨a1, d1, a3, c0, c1, k0, k1⟩, hx.drew⟩ | exact hy | assumption)
                (first | (go_at_call 22; (with_reducible refine (HN.out _ ?_).mono ?_); assumption; rintro e w' ⟨rfl, hy⟩) | (go_at_call 35; (with_reducible refine (HA.out _ ?_).mono ?_); assumption; rintro e w' ⟨rfl, hy⟩) | (go_at_call 82; (with_reducible refine (HR.out _ ?_).mono ?_); assumption; rintro e w' ⟨rfl, hy⟩))
              all_goals
                go_wp2_with fail
                go_ret
                exact ⟨rfl, hy.2⟩
            · by_cases hq : m * 2 ^ k = n
              · have heq := eqN (m * 2 ^ k) (n) HPB.out HQB.out true (decide_eq_true hq)
                rw [← HPV.out.1, ← HPV.out.2] at heq
                have h0 : res = 0 := by rw [HRS.out, addW_eq s t hst HLE0.out (by rw [HDN.out.2.1]; exact hq)]; decide +kernel
                have HZ0 := Lib.hid h0
                clear hS hst hg hq h0
                go_wp2_with fail
                go_ret
                exact ⟨by rw [HZ0.out]; rfl, hx⟩
              · have heq := eqN (m * 2 ^ k) (n) HPB.out HQB.out false (decide_eq_false hq)
                rw [← HPV.out.1, ← HPV.out.2] at heq
                have hlt3 : m * 2 ^ k < n := by omega
                have hle := lessN (m * 2 ^ k) (n) HPB.out HQB.out true (decide_eq_true hlt3)
                have hne := negP (m * 2 ^ k)
                have had := addQP (m * 2 ^ k) (n) (Nat.le_of_lt hlt3) HQB.out
                have hrn := (fun W => by have := rnd_exact t (n - m * 2 ^ k) (by have := HQB.out; omega) e2 HPL.out W; rw [HRS.out, addW_lt s t hst HLE0.out (by rw [HDN.out.2.1]; exact hlt3), HDN.out.2.1]; exact this : RndN t (lo ((n - m * 2 ^ k : Nat) : Int)) (hi ((n - m * 2 ^ k : Nat) : Int)) e2 false res)
                rw [← HPV.out.1, ← HPV.out.2] at hle hne
                obtain ⟨y1, hy1⟩ : ∃ x, x = lo (-((m * 2 ^ k : Nat) : Int)) := ⟨_, rfl⟩
                obtain ⟨y2, hy2⟩ : ∃ x, x = hi (-((m * 2 ^ k : Nat) : Int)) := ⟨_, rfl⟩
                obtain ⟨x1, hx1⟩ : ∃ x, x = lo ((n - m * 2 ^ k : Nat) : Int) := ⟨_, rfl⟩
                obtain ⟨x2, hx2⟩ : ∃ x, x = hi ((n - m * 2 ^ k : Nat) : Int) := ⟨_, rfl⟩
                rw [← hy1, ← hy2] at hne had
                rw [← hx1, ← hx2] at had hrn
                have HLE := Lib.hid hle
                have HN := Lib.hid (show ∀ W, (W.cell? ⟨A, 1, none⟩ = some (.bool s) ∧ W.cell? ⟨B, 1, none⟩ = some (.bool t) ∧ W.cell? ⟨A, 3, none⟩ = some (.int .i64 e2) ∧ W.cell? ⟨C, 0, none⟩ = some (.int .i64 p) ∧ W.cell? ⟨C, 1, none⟩ = some (.int .i64 q) ∧ W.cell? ⟨D, 0, none⟩ = some (.int .i64 (n : Int)) ∧ W.cell? ⟨D, 1, none⟩ = some (.int .i64 0)) ∧ Ext w W → Calls Tryz.prog 22 #[.agg #[.int .i64 p, .int .i64 q]] W (fun e w' => e = .returned (.agg #[.int .i64 y1, .int .i64 y2]) ∧ ((w'.cell? ⟨A, 1, none⟩ = some (.bool s) ∧ w'.cell? ⟨B, 1, none⟩ = some (.bool t) ∧ w'.cell? ⟨A, 3, none⟩ = some (.int .i64 e2) ∧ w'.cell? ⟨C, 0, none⟩ = some (.int .i64 p) ∧ w'.cell? ⟨C, 1, none⟩ = some (.int .i64 q) ∧ w'.cell? ⟨D, 0, none⟩ = some (.int .i64 (n : Int)) ∧ w'.cell? ⟨D, 1, none⟩ = some (.int .i64 0)) ∧ Ext w w')) from held_call (fun W => (W.cell? ⟨A, 1, none⟩ = some (.bool s) ∧ W.cell? ⟨B, 1, none⟩ = some (.bool t) ∧ W.cell? ⟨A, 3, none⟩ = some (.int .i64 e2) ∧ W.cell? ⟨C, 0, none⟩ = some (.int .i64 p) ∧ W.cell? ⟨C, 1, none⟩ = some (.int .i64 q) ∧ W.cell? ⟨D, 0, none⟩ = some (.int .i64 (n : Int)) ∧ W.cell? ⟨D, 1, none⟩ = some (.int .i64 0)) ∧ Ext w W) hS hne)
                have HA := Lib.hid (show ∀ W, (W.cell? ⟨A, 1, none⟩ = some (.bool s) ∧ W.cell? ⟨B, 1, none⟩ = some (.bool t) ∧ W.cell? ⟨A, 3, none⟩ = some (.int .i64 e2) ∧ W.cell? ⟨C, 0, none⟩ = some (.int .i64 p) ∧ W.cell? ⟨C, 1, none⟩ = some (.int .i64 q) ∧ W.cell? ⟨D, 0, none⟩ = some (.int .i64 (n : Int)) ∧ W.cell? ⟨D, 1, none⟩ = some (.int .i64 0)) ∧ Ext w W → Calls Tryz.prog 35 #[.agg #[.int .i64 (n : Int), .int .i64 0], .agg #[.int .i64 y1, .int .i64 y2]] W (fun e w' => e = .returned (.agg #[.int .i64 x1, .int .i64 x2]) ∧ ((w'.cell? ⟨A, 1, none⟩ = some (.bool s) ∧ w'.cell? ⟨B, 1, none⟩ = some (.bool t) ∧ w'.cell? ⟨A, 3, none⟩ = some (.int .i64 e2) ∧ w'.cell? ⟨C, 0, none⟩ = some (.int .i64 p) ∧ w'.cell? ⟨C, 1, none⟩ = some (.int .i64 q) ∧ w'.cell? ⟨D, 0, none⟩ = some (.int .i64 (n : Int)) ∧ w'.cell? ⟨D, 1, none⟩ = some (.int .i64 0)) ∧ Ext w w')) from held_call (fun W => (W.cell? ⟨A, 1, none⟩ = some (.bool s) ∧ W.cell? ⟨B, 1, none⟩ = some (.bool t) ∧ W.cell? ⟨A, 3, none⟩ = some (.int .i64 e2) ∧ W.cell? ⟨C, 0, none⟩ = some (.int .i64 p) ∧ W.cell? ⟨C, 1, none⟩ = some (.int .i64 q) ∧ W.cell? ⟨D, 0, none⟩ = some (.int .i64 (n : Int)) ∧ W.cell? ⟨D, 1, none⟩ = some (.int .i64 0)) ∧ Ext w W) hS had)
                have HR := Lib.hid (show ∀ W, (W.cell? ⟨A, 1, none⟩ = some (.bool s) ∧ W.cell? ⟨B, 1, none⟩ = some (.bool t) ∧ W.cell? ⟨A, 3, none⟩ = some (.int .i64 e2) ∧ W.cell? ⟨C, 0, none⟩ = some (.int .i64 p) ∧ W.cell? ⟨C, 1, none⟩ = some (.int .i64 q) ∧ W.cell? ⟨D, 0, none⟩ = some (.int .i64 (n : Int)) ∧ W.cell? ⟨D, 1, none⟩ = some (.int .i64 0)) ∧ Ext w W → Calls Tryz.prog 82 #[.bool t, .agg #[.int .i64 x1, .int .i64 x2], .int .i64 e2, .bool false] W (fun e w' => e = .returned (.int .i64 res) ∧ ((w'.cell? ⟨A, 1, none⟩ = some (.bool s) ∧ w'.cell? ⟨B, 1, none⟩ = some (.bool t) ∧ w'.cell? ⟨A, 3, none⟩ = some (.int .i64 e2) ∧ w'.cell? ⟨C, 0, none⟩ = some (.int .i64 p) ∧ w'.cell? ⟨C, 1, none⟩ = some (.int .i64 q) ∧ w'.cell? ⟨D, 0, none⟩ = some (.int .i64 (n : Int)) ∧ w'.cell? ⟨D, 1, none⟩ = some (.int .i64 0)) ∧ Ext w w')) from held_call (fun W => (W.cell? ⟨A, 1, none⟩ = some (.bool s) ∧ W.cell? ⟨B, 1, none⟩ = some (.bool t) ∧ W.cell? ⟨A, 3, none⟩ = some (.int .i64 e2) ∧ W.cell? ⟨C, 0, none⟩ = some (.int .i64 p) ∧ W.cell? ⟨C, 1, none⟩ = some (.int .i64 q) ∧ W.cell? ⟨D, 0, none⟩ = some (.int .i64 (n : Int)) ∧ W.cell? ⟨D, 1, none⟩ = some (.int .i64 0)) ∧ Ext w W) hS hrn)
                clear hne had hrn hx1 hx2 hy1 hy2 hS hst hg hle hq hlt3
                go_wp2_with fail
                refine (HLE.out _).mono ?_
                rintro e w3 ⟨rfl, hx3⟩
                have a1 := ext_keeps hx3 a1
                have d1 := ext_keeps hx3 d1
                have a3 := ext_keeps hx3 a3
                have c0 := ext_keeps hx3 c0
                have c1 := ext_keeps hx3 c1
                have k0 := ext_keeps hx3 k0
                have k1 := ext_keeps hx3 k1
                have hx := hx.trans hx3
                clear hx3
                go_wp2_with fail
                go_region_held3 (fun W => (W.cell? ⟨A, 1, none⟩ = some (.bool s) ∧ W.cell? ⟨B, 1, none⟩ = some (.bool t) ∧ W.cell? ⟨A, 3, none⟩ = some (.int .i64 e2) ∧ W.cell? ⟨C, 0, none⟩ = some (.int .i64 p) ∧ W.cell? ⟨C, 1, none⟩ = some (.int .i64 q) ∧ W.cell? ⟨D, 0, none⟩ = some (.int .i64 (n : Int)) ∧ W.cell? ⟨D, 1, none⟩ = some (.int .i64 0)) ∧ Ext w W) (first | exact ⟨⟨a1, d1, a3, c0, c1, k0, k1⟩, hx⟩ | exact ⟨⟨a1, d1, a3, c0, c1, k0, k1⟩, hx.drew⟩ | exact hy | assumption)
                  (first | (go_at_call 22; (with_reducible refine (HN.out _ ?_).mono ?_); assumption; rintro e w' ⟨rfl, hy⟩) | (go_at_call 35; (with_reducible refine (HA.out _ ?_).mono ?_); assumption; rintro e w' ⟨rfl, hy⟩) | (go_at_call 82; (with_reducible refine (HR.out _ ?_).mono ?_); assumption; rintro e w' ⟨rfl, hy⟩))
                all_goals
                  go_wp2_with fail
                  go_ret
                  exact ⟨rfl, hy.2⟩
end Go.Proofs.YtegcecpmdgljpaaGreatDoor
