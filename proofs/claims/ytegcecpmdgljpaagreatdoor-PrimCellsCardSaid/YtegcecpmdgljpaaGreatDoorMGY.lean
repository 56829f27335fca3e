/- The document's way of cutting a number down gives the nearest word, whatever number it is. No condition. The document's answers for layer 4: any number rounded. Condition: it is below 2^125, its place of at most four digits. Sums of real numbers as plain mathematics: what the document rounds is what the exact sum is. No condition. The order of real numbers, by their words; what the document says of it. No condition. Quotients of real numbers as plain mathematics: what the document rounds is what the exact quotient is. No condition. -/
import Derived.Test.YtegcecpmdgljpaaGreatDoorMGX
namespace Go.Proofs.YtegcecpmdgljpaaGreatDoor
open Ieee
set_option linter.unusedVariables false

/-- The number A / B, times 2 to the c, is cut down to P at place e; mo: something was cut off. -/
def Rel (A B : Nat) (c : Int) (P : Nat) (e : Int) (mo : Bool) : Prop := ∃ k : Nat, e = c + (k : Int) ∧ A / (B * 2 ^ k) = P ∧ decide (A % (B * 2 ^ k) ≠ 0) = mo
theorem mod_step (A D : Nat) : A % (D * 2) = A % D + D * (A / D % 2) := Nat.mod_mul
theorem Rel.step {A B : Nat} {c : Int} {P : Nat} {e : Int} {mo : Bool} (h : Rel A B c P e mo) (hB : B ≠ 0) : Rel A B c (P / 2) (e + 1) (mo || P % 2 == 1) := by
  obtain ⟨k, h1, h2, h3⟩ := h
  have hD : B * 2 ^ (k + 1) = B * 2 ^ k * 2 := by rw [Nat.pow_succ, Nat.mul_assoc]
  have hp : 0 < B * 2 ^ k := Nat.pos_of_ne_zero (Nat.mul_ne_zero hB (pow_ne k))
  refine ⟨k + 1, by omega, ?_, ?_⟩
  · rw [hD, ← Nat.div_div_eq_div_mul, h2]
  · rw [hD, mod_step, h2, ← h3]
    rw [Bool.eq_iff_iff]
    simp only [decide_eq_true_eq, Bool.or_eq_true, beq_iff_eq]
    by_cases q : P % 2 = 1
    · rw [q, Nat.mul_one]
      refine ⟨fun _ => Or.inr rfl, fun _ => by omega⟩
    · have q0 : P % 2 = 0 := by omega
      rw [q0, Nat.mul_zero, Nat.add_zero]
      refine ⟨Or.inl, fun h => h.elim id fun h => by omega⟩
/-- What is left when there is nothing to be cut any more. -/
theorem cutF_ends2 {A B : Nat} {c : Int} (hB : B ≠ 0) : ∀ (f P : Nat) (e : Int) (mo : Bool), Rel A B c P e mo → P + (-1075 - e).toNat ≤ f → (9007199254740992 ≤ P ∨ e ≤ -1075) →
    ∃ P' e' mo', cutF f P e mo = (P', e', mo') ∧ Rel A B c P' e' mo' ∧ P' < 18014398509481984 ∧ -1075 ≤ e' ∧ (9007199254740992 ≤ P' ∨ e' = -1075)
  | 0, P, e, mo, h, hf, hb => by
    have e1 : -1075 ≤ e := by omega
    have p0 : P = 0 := by omega
    subst p0
    exact ⟨0, e, mo, rfl, h, by decide, e1, by omega⟩
  | f + 1, P, e, mo, h, hf, hb => by
    by_cases cc : 18014398509481984 ≤ P ∨ e < -1075
    · rw [cutF_go f P e mo cc]
      exact cutF_ends2 hB f (P / 2) (e + 1) _ (h.step hB) (by omega) (by omega)
    · rw [cutF_stop _ _ _ _ cc]
      exact ⟨P, e, mo, rfl, h, by omega, by omega, by omega⟩
/-- Steps that leave enough. -/
theorem cutF_pass : ∀ (t f P : Nat) (e : Int) (mo : Bool), 9007199254740992 ≤ P / 2 ^ t → P + (-1075 - e).toNat ≤ f →
    ∃ f', cutF f P e mo = cutF f' (P / 2 ^ t) (e + (t : Int)) (mo || decide (P % 2 ^ t ≠ 0)) ∧ P / 2 ^ t + (-1075 - (e + (t : Int))).toNat ≤ f'
  | 0, f, P, e, mo, h, hf => ⟨f, by simp [Nat.mod_one], by simpa using hf⟩
  | t + 1, f, P, e, mo, h, hf => by
    have e1 : P / 2 ^ (t + 1) = P / 2 / 2 ^ t := by rw [Nat.pow_succ, Nat.mul_comm, Nat.div_div_eq_div_mul]
    have hP : 18014398509481984 ≤ P := by
      rw [e1] at h
      have := Nat.div_le_self (P / 2) (2 ^ t)
      omega
    obtain ⟨g, rfl⟩ : ∃ g, f = g + 1 := ⟨f - 1, by omega⟩
    rw [cutF_go g P e mo (Or.inl hP)]
    obtain ⟨f', h1, h2⟩ := cutF_pass t g (P / 2) (e + 1) (mo || P % 2 == 1) (by rw [← e1]; exact h) (by omega)
    refine ⟨f', ?_, ?_⟩
    · rw [h1, e1, show e + 1 + (t : Int) = e + ((t + 1 : Nat) : Int) by omega]
      congr 1
      have hm : P % 2 ^ (t + 1) = P % 2 + 2 * (P / 2 % 2 ^ t) := by rw [Nat.pow_succ, Nat.mul_comm (2 ^ t) 2]; exact Nat.mod_mul
      rw [hm, Bool.or_assoc]
      congr 1
      rw [Bool.eq_iff_iff]
      simp only [decide_eq_true_eq, Bool.or_eq_true, beq_iff_eq]
      omega
    · rw [e1, show e + ((t + 1 : Nat) : Int) = e + 1 + (t : Int) by omega]
      exact h2
theorem log2_div (N k P : Nat) (h : N / 2 ^ k = P) (h0 : P ≠ 0) : N.log2 = P.log2 + k := by
  have a := Nat.log2_self_le h0
  have b : P < 2 ^ (P.log2 + 1) := Nat.lt_log2_self
  have hN : N ≠ 0 := by intro z; rw [z, Nat.zero_div] at h; exact h0 h.symm
  have l1 : P.log2 + k ≤ N.log2 := (Nat.le_log2 hN).2 (by
    rw [Nat.pow_add]
    have := Nat.div_mul_le_self N (2 ^ k)
    rw [h] at this
    exact Nat.le_trans (Nat.mul_le_mul_right _ a) this)
  have l2 : N.log2 < P.log2 + k + 1 := (Nat.log2_lt hN).2 (by
    have : N < (P + 1) * 2 ^ k := by
      have := Nat.lt_div_mul_add (a := N) (b := 2 ^ k) (Nat.two_pow_pos k)
      rw [h] at this
      rw [Nat.add_mul, Nat.one_mul]
      exact this
    rw [show P.log2 + k + 1 = P.log2 + 1 + k by omega, Nat.pow_add]
    exact Nat.lt_of_lt_of_le this (Nat.mul_le_mul_right _ b))
  omega
/-- Rounding at a place: the half, or more. -/
theorem cut_half (s : Bool) (N k : Nat) (h0 : N ≠ 0) : Toward.even.cut s N (k + 1) = (if (N / 2 ^ k) % 2 = 1 ∧ (decide (N % 2 ^ k ≠ 0) = true ∨ N / 2 ^ k / 2 % 2 = 1) then N / 2 ^ k / 2 + 1 else N / 2 ^ k / 2) := by
  unfold Toward.cut
  by_cases hk : k + 1 ≤ N.log2 + 2
  · rw [Nat.min_eq_left hk, Nat.shiftLeft_eq, Nat.one_mul]
    have e1 : N / 2 ^ (k + 1) = N / 2 ^ k / 2 := by rw [Nat.pow_succ, Nat.div_div_eq_div_mul]
    have e2 : N % 2 ^ (k + 1) = N % 2 ^ k + 2 ^ k * (N / 2 ^ k % 2) := by rw [Nat.pow_succ]; exact Nat.mod_mul
    have e3 : N % 2 ^ k < 2 ^ k := Nat.mod_lt _ (Nat.two_pow_pos k)
    have e4 : (2 : Nat) ^ (k + 1) = 2 ^ k * 2 := Nat.pow_succ ..
    simp only [e1, e2]
    rw [e4]
    generalize N % 2 ^ k = r at *
    generalize N / 2 ^ k = P at *
    generalize 2 ^ k = D at *
    by_cases q : P % 2 = 1
    · rw [q, Nat.mul_one]
      by_cases z : r = 0
      · subst z
        have n1 : ¬ D * 2 < 2 * (0 + D) := by omega
        have n2 : (D * 2 == 2 * (0 + D)) = true := by rw [beq_iff_eq]; omega
        by_cases u : P / 2 % 2 = 1
        · simp [u]
          omega
        · simp [u]
          omega
      · have n1 : D * 2 < 2 * (r + D) := by omega
        simp [n1, z]
    · have q0 : P % 2 = 0 := by omega
      rw [q0, Nat.mul_zero, Nat.add_zero]
      have n1 : ¬ D * 2 < 2 * r := by omega
      have n2 : (D * 2 == 2 * r) = false := by rw [beq_eq_false_iff_ne]; omega
      simp [n1, n2]
  · have hlt : N < 2 ^ (N.log2 + 1) := Nat.lt_log2_self
    have hle : 2 ^ (N.log2 + 1) ≤ 2 ^ k := Nat.pow_le_pow_right (by decide) (by omega)
    have hd : N / 2 ^ k = 0 := Nat.div_eq_of_lt (by omega)
    rw [hd, Nat.min_eq_right (by omega), Nat.shiftLeft_eq, Nat.one_mul]
    have e4 : (2 : Nat) ^ (N.log2 + 2) = 2 ^ (N.log2 + 1) * 2 := Nat.pow_succ ..
    have d2 : N / 2 ^ (N.log2 + 2) = 0 := Nat.div_eq_of_lt (by omega)
    have m2 : N % 2 ^ (N.log2 + 2) = N := Nat.mod_eq_of_lt (by omega)
    simp only [d2, m2]
    have n1 : ¬ 2 ^ (N.log2 + 2) < 2 * N := by omega
    have n2 : (2 ^ (N.log2 + 2) == 2 * N) = false := by rw [beq_eq_false_iff_ne]; omega
    simp [n1, n2]
theorem cut_near (s : Bool) {N : Nat} {p : Int} {P : Nat} {e : Int} {mo : Bool} (h0 : N ≠ 0) (h : Rel N 1 p P e mo) (b1 : P < 18014398509481984) (b2 : -1075 ≤ e) (b3 : 9007199254740992 ≤ P ∨ e = -1075) : cutR s (P, e, mo) = double.nearest s N p := by
  obtain ⟨k, h1, h2, h3⟩ := h
  rw [Nat.one_mul] at h2 h3
  have hlast : max (p + N.log2 - 52) (-1074) = e + 1 := by
    by_cases z : P = 0
    · have hN : N < 2 ^ k := by
        apply Nat.lt_of_not_le
        intro q
        have := Nat.div_pos q (Nat.two_pow_pos k)
        omega
      have := (Nat.log2_lt h0).2 hN
      omega
    · have hl := log2_div N k P h2 z
      have l1 : P.log2 < 54 := (Nat.log2_lt z).2 (by omega)
      rcases b3 with b3 | b3
      · have : 53 ≤ P.log2 := (Nat.le_log2 z).2 (by omega)
        omega
      · omega
  have hk := cut_half s N k h0
  rw [h2, h3] at hk
  have hlast : max (p + (N.log2 : Int) - ((52 : Nat) : Int)) (-1074) = e + 1 := hlast
  unfold Format.nearest
  rw [if_neg h0, d_frac, d_least, d_binade, d_inf]
  have x1 : (p - (e + 1)).toNat = 0 := by omega
  have x2 : (e + 1 - p).toNat = k + 1 := by omega
  simp only [hlast, x1, x2, Nat.shiftLeft_zero, hk]
  generalize hm : (if P % 2 = 1 ∧ (mo = true ∨ P / 2 % 2 = 1) then P / 2 + 1 else P / 2) = m1
  have m54 : m1 ≤ 9007199254740992 := by rw [← hm]; split <;> omega
  have mlo : 4503599627370496 ≤ m1 ∨ e = -1075 := by rw [← hm]; split <;> omega
  generalize hR : min _ 9218868437227405312 = R
  have hx : ∃ n : Nat, (e + 1 - -1074).toNat = n ∧ e = (n : Int) - 1075 := ⟨(e + 1 - -1074).toNat, rfl, by clear hm hR; omega⟩
  obtain ⟨n, hn, hn2⟩ := hx
  rw [hn] at hR
  subst hn2
  have hn3 : 4503599627370496 ≤ m1 ∨ n = 0 := by
    clear hm hR
    rcases mlo with h | h
    · exact Or.inl h
    · right; omega
  clear hk hlast x1 x2 h2 h3 h1 hn mlo b2 b3
  obtain ⟨e, he⟩ : ∃ e : Int, e = (n : Int) - 1075 := ⟨_, rfl⟩
  rw [← he]
  by_cases c : m1 = 9007199254740992
  · rw [c] at hm
    by_cases q : 971 < e + 1 + 1
    · refine (cutR_cinf s P e mo hm q).trans (word_mk s ?_)
      clear hm
      omega
    · refine (cutR_cnorm s P e mo hm (by clear hm hR; omega)).trans (word_mk s ?_)
      clear hm
      omega
  · have c2 : m1 < 9007199254740992 := by clear hm hR; omega
    by_cases q : 971 < e + 1
    · refine (cutR_inf s P e mo m1 hm c2 q).trans (word_mk s ?_)
      clear hm
      omega
    · have q2 : e + 1 ≤ 971 := by clear hm hR; omega
      by_cases d : m1 < 4503599627370496
      · refine (cutR_sub s P e mo m1 hm d q2).trans (word_mk s ?_)
        clear hm
        omega
      · refine (cutR_norm s P e mo m1 hm c2 d q2).trans (word_mk s ?_)
        clear hm
        omega
/-- What the document's rounding tells: of a number that has enough bits. -/
theorem cut_all (s : Bool) {N : Nat} {p : Int} {P : Nat} {e : Int} {mo : Bool} (f : Nat) (h0 : N ≠ 0) (h : Rel N 1 p P e mo) (hf : P + (-1075 - e).toNat ≤ f) (hb : 9007199254740992 ≤ P) : cutR s (cutF f P e mo) = double.nearest s N p := by
  obtain ⟨P', e', mo', h1, h2, h3, h4, h5⟩ := cutF_ends2 (by decide) f P e mo h hf (Or.inl hb)
  rw [h1]
  exact cut_near s h0 h2 h3 h4 h5
end Go.Proofs.YtegcecpmdgljpaaGreatDoor

namespace Go.Proofs.YtegcecpmdgljpaaGreatDoor
open Go.RowKit
set_option linter.unusedVariables false
open Ieee (double)

theorem up_to2 (m j : Nat) (h0 : m ≠ 0) (h : m < 42535295865117307932921825928971026432) : (m * 2 ^ j < 21267647932558653966460912964485513216 ↔ j < 124 - m.log2) ∧ (j ≤ 124 - m.log2 → m * 2 ^ j < 42535295865117307932921825928971026432) := by
  have hl : m.log2 < 125 := (Nat.log2_lt h0).2 (by rw [show (2 : Nat) ^ 125 = 42535295865117307932921825928971026432 by decide +kernel]; exact h)
  have a : (2 : Nat) ^ 124 = 21267647932558653966460912964485513216 := by decide +kernel
  have b : (2 : Nat) ^ 125 = 42535295865117307932921825928971026432 := by decide +kernel
  have hm : m * 2 ^ j ≠ 0 := Nat.mul_ne_zero h0 (pow_ne j)
  rw [← a, ← b, ← Nat.log2_lt hm, ← Nat.log2_lt hm, log2_mul_pow m j h0]
  omega
def topG (m : Nat) (e0 : Int) (mo : Bool) : Nat × Int × Bool := cutF (m * 2 ^ topJ m + (-1075 - (e0 - (topJ m : Int))).toNat) (m * 2 ^ topJ m) (e0 - (topJ m : Int)) mo
theorem top_inv2 (mo : Bool) (m : Nat) (h0 : m ≠ 0) (h : m < 42535295865117307932921825928971026432) (e0 : Int) (he : -10000 ≤ e0 ∧ e0 ≤ 10000) : CutInv (e0 - (topJ m : Int)) (m * 2 ^ topJ m) (topG m e0 mo) (m * 2 ^ topJ m % 18446744073709551616) (m * 2 ^ topJ m / 18446744073709551616) (e0 - (topJ m : Int)) mo ∧ m * 2 ^ topJ m < 2 ^ 128 := by
  have k := (up_to2 m (topJ m) h0 h).2 (Nat.le_refl _)
  have hj : topJ m ≤ 124 := by unfold topJ; omega
  have e : m * 2 ^ topJ m % 18446744073709551616 + 18446744073709551616 * (m * 2 ^ topJ m / 18446744073709551616) = m * 2 ^ topJ m := Nat.mod_add_div _ _
  have b : (2 : Nat) ^ 128 = 340282366920938463463374607431768211456 := by decide +kernel
  refine ⟨⟨Nat.mod_lt _ (by decide), by omega, Int.le_refl _, by omega, ?_, ?_⟩, by rw [b]; omega⟩
  · rw [e, Int.sub_self, Int.toNat_zero, Nat.pow_zero, Nat.mul_one]
    exact Nat.le_refl _
  · rw [e]
    exact ⟨_, rfl, Nat.le_refl _⟩
/-- What holds at each step of making a number great. -/
structure Up2 (m : Nat) (j : Nat) (l h : Int) : Prop where
  le : j ≤ topJ m
  par : Par l h (m * 2 ^ j)
theorem Up2.go {m j : Nat} {l h : Int} (u : Up2 m j l h) (h0 : m ≠ 0) (hm : m < 42535295865117307932921825928971026432) (hj : j < topJ m) : (h < 1152921504606846976) ∧ ∃ l' h', Up2 m (j + 1) l' h' ∧ ∀ W, Calls Tryz.prog 78 #[.agg #[.int .i64 l, .int .i64 h]] W fun e w' => e = .returned (.agg #[.int .i64 l', .int .i64 h']) ∧ Ext W w' := by
  have k := (up_to2 m j h0 hm).1.2 hj
  obtain ⟨l', h', q, c⟩ := par_twice u.par k
  refine ⟨u.par.top.2.2.2.2 k, l', h', ⟨by omega, ?_⟩, c⟩
  rw [Nat.pow_succ, ← Nat.mul_assoc, Nat.mul_comm _ 2]
  exact q
theorem Up2.stop {m j : Nat} {l h : Int} (u : Up2 m j l h) (h0 : m ≠ 0) (hm : m < 42535295865117307932921825928971026432) (hj : ¬ j < topJ m) : ¬ (h < 1152921504606846976) ∧ j = topJ m := by
  have e : j = topJ m := by have := u.le; omega
  refine ⟨fun k => ?_, e⟩
  have := (up_to2 m j h0 hm).1.1 (u.par.top.2.2.2.1 k)
  unfold topJ at hj
  exact hj this
theorem Up2.nz {m j : Nat} {l h : Int} (u : Up2 m j l h) (h0 : m ≠ 0) : (l == 0 && h == 0) = false := u.par.some (Nat.mul_ne_zero h0 (pow_ne j))
theorem top_cut2 (s mo : Bool) (m : Nat) (h0 : m ≠ 0) (hm : m < 42535295865117307932921825928971026432) (e0 : Int) (he : -10000 ≤ e0 ∧ e0 ≤ 10000) {l h : Int} (u : Up2 m (topJ m) l h) (w : World) :
    Calls Tryz.prog 184 #[.bool s, .agg #[.int .i64 l, .int .i64 h], .int .i64 (e0 - (topJ m : Int)), .bool mo] w fun e w' => e = .returned (.int .i64 (cellOf (cutR s (topG m e0 mo)))) ∧ Ext w w' := by
  obtain ⟨k1, k2⟩ := top_inv2 mo m h0 hm e0 he
  obtain ⟨c1, c2⟩ := u.par.cells
  have hj : topJ m ≤ 124 := by unfold topJ; omega
  exact rcut4 s l h _ _ c1 c2 _ mo _ k2 (by omega) _ k1 (u.nz h0) (by omega) w
set_option maxHeartbeats 4000000 in
set_option maxRecDepth 100000 in
theorem rrounded2 (s mo : Bool) (m : Nat) (h0 : m ≠ 0) (hm : m < 42535295865117307932921825928971026432) (e0 : Int) (he : -10000 ≤ e0 ∧ e0 ≤ 10000) (l0 h1 : Int) (hp : Par l0 h1 m) (w : World) :
    Calls Tryz.prog 82 #[.bool s, .agg #[.int .i64 l0, .int .i64 h1], .int .i64 e0, .bool mo] w fun e w' => e = .returned (.int .i64 (cellOf (cutR s (topG m e0 mo)))) ∧ Ext w w' := by
  have u0 : Up2 m 0 l0 h1 := ⟨Nat.zero_le _, by rw [Nat.pow_zero, Nat.mul_one]; exact hp⟩
  have TC := Lib.hid (fun l h u => top_cut2 s mo m h0 hm e0 he (l := l) (h := h) u)
  have H0 := Lib.hid h0
  have HM := Lib.hid hm
  have hj : topJ m ≤ 124 := by unfold topJ; omega
  obtain ⟨J, hJ⟩ : ∃ J, J = topJ m := ⟨_, rfl⟩
  rw [← hJ] at TC hj
  have HJ := Lib.hid hJ
  generalize cellOf (cutR s (topG m e0 mo)) = res at *
  obtain ⟨he1, he2⟩ := he
  clear hp h0 hm hJ
  go_enter Tryz.func82, Tryz.ntmps82
  go_wp2
  have o0 : Own (w.alloc (.cells #[Value.int .i64 l0, Value.int .i64 h1] 44)) w.heap.size (.int .i64 l0) (.int .i64 h1) := Own.last
  have hE : Ext w (w.alloc (.cells #[Value.int .i64 l0, Value.int .i64 h1] 44)) := (Ext.refl w).cells _ _
  go_loopw [2] (fun e wr => ∃ (j : Nat) (l h : Int), e = .int .i64 (e0 - (j : Int)) ∧ j ≤ J ∧ Up2 m j l h ∧ Own wr w.heap.size (.int .i64 l) (.int .i64 h) ∧ Ext w wr) (fun e _ => (intOf e + 20000).toNat)
  case atStart => exact ⟨0, l0, h1, by simp, Nat.zero_le _, u0, o0, hE⟩
  case round =>
    obtain ⟨j, l, h, rfl, hjJ, u, p, hx⟩ := hrel
    clear o0 hE u0
    have nz := u.nz H0.out
    obtain ⟨t0, t1, t2, _⟩ := u.par.top
    have c0 := p.c0
    have c1 := p.c1
    have f0 := p.f0
    have f1 := p.f1
    have lt := p.lt
    have j0 := nat_low j
    have j1 : (j : Int) ≤ 124 := by omega
    by_cases hc : j < J
    · obtain ⟨hlt, l', h', u', ht⟩ := u.go H0.out HM.out (by rw [← HJ.out]; exact hc)
      have HT := Lib.hid ht
      have U' := Lib.hid u'
      have HC := Lib.hid hc
      clear ht u' u hc
      go_wp2_with fail
      refine (HT.out _).mono ?_
      rintro e w' ⟨rfl, hx1⟩
      have p1 := p.ext hx1
      have hx2 := hx.trans hx1
      clear c0 c1 f0 f1 lt p hx hx1
      have c0 := p1.c0
      have c1 := p1.c1
      have f0 := p1.f0
      have f1 := p1.f1
      have lt := p1.lt
      go_wp2_with fail
      go_roundw
      case rel => exact ⟨j + 1, l', h', v_i64 (by omega), HC.out, U'.out, p1.set _ _, hx2.set2 (Nat.le_refl _) _ _⟩
      case measure => simp [intOf]; omega
    · obtain ⟨hge, ej⟩ := u.stop H0.out HM.out (by rw [← HJ.out]; exact hc)
      rw [← HJ.out] at ej
      subst ej
      have TC2 := Lib.hid (TC.out l h u)
      clear hc u TC
      go_wp2_with fail
      refine (TC2.out _).mono ?_
      rintro e w' ⟨rfl, hx1⟩
      go_wp2_with fail
      go_ret
      exact ⟨rfl, hx.trans hx1⟩
theorem big124 : (2 : Nat) ^ 124 = 21267647932558653966460912964485513216 := by decide +kernel
theorem topJ_big (m : Nat) (h0 : m ≠ 0) (h : m < 42535295865117307932921825928971026432) : 9007199254740992 ≤ m * 2 ^ topJ m := by
  have k := (up_to2 m (topJ m) h0 h).1
  have : ¬ m * 2 ^ topJ m < 21267647932558653966460912964485513216 := fun z => by
    have := k.1 z
    unfold topJ at this
    omega
  omega
theorem topG_exact (s : Bool) (m : Nat) (h0 : m ≠ 0) (h : m < 42535295865117307932921825928971026432) (e0 : Int) : cutR s (topG m e0 false) = double.nearest s m e0 := by
  have hN : m * 2 ^ topJ m ≠ 0 := Nat.mul_ne_zero h0 (pow_ne _)
  have hr : Rel (m * 2 ^ topJ m) 1 (e0 - (topJ m : Int)) (m * 2 ^ topJ m) (e0 - (topJ m : Int)) false := ⟨0, by omega, by simp, by simp [Nat.mod_one]⟩
  have := cut_all s _ hN hr (Nat.le_refl _) (topJ_big m h0 h)
  rw [nearest_shift s m (topJ m) e0 h0] at this
  exact this
theorem topG_more (s mo : Bool) (m : Nat) (hb : 9007199254740992 ≤ m) (e0 : Int) {N : Nat} {p : Int} (hN : N ≠ 0) (hr : Rel N 1 p m e0 mo) : cutR s (topG m e0 mo) = double.nearest s N p := by
  have hd : m * 2 ^ topJ m / 2 ^ topJ m = m := Nat.mul_div_cancel _ (Nat.two_pow_pos _)
  have hm : m * 2 ^ topJ m % 2 ^ topJ m = 0 := Nat.mul_mod_left _ _
  obtain ⟨f', h1, h2⟩ := cutF_pass (topJ m) _ (m * 2 ^ topJ m) (e0 - (topJ m : Int)) mo (by rw [hd]; exact hb) (Nat.le_refl _)
  unfold topG
  rw [h1, hd, hm, show e0 - (topJ m : Int) + (topJ m : Int) = e0 by omega]
  rw [hd, show e0 - (topJ m : Int) + (topJ m : Int) = e0 by omega] at h2
  have e : (mo || decide ((0 : Nat) ≠ 0)) = mo := by simp
  rw [e]
  exact cut_all s f' hN hr h2 hb
set_option maxHeartbeats 4000000 in
set_option maxRecDepth 100000 in
theorem rcut_zero (s mo : Bool) (e0 : Int) (w : World) : Calls Tryz.prog 184 #[.bool s, .agg #[.int .i64 0, .int .i64 0], .int .i64 e0, .bool mo] w fun e w' => e = .returned (.int .i64 (cellOf (double.word s 0))) ∧ Ext w w' := by
  have hsg : ∀ w, Calls Tryz.prog 84 #[.bool s, .int .u64 0] w fun e w' => e = .returned (.int .i64 (cellOf (double.word s 0))) ∧ w = w' := fun w => by
    rw [← cell_word s 0 (by decide)]
    exact rsigned4 s 0 (by decide) (by decide) w
  have hsg := Lib.hid hsg
  generalize cellOf (double.word s 0) = res at *
  go_enter Tryz.func184, Tryz.ntmps184
  go_wp2_with fail
  refine (hsg.out _).mono ?_
  rintro e w' ⟨rfl, rfl⟩
  go_wp2_with fail
  go_ret
  exact ⟨rfl, (Ext.refl w).cells _ _⟩
set_option maxHeartbeats 4000000 in
set_option maxRecDepth 100000 in
theorem rrounded_zero (s mo : Bool) (e0 : Int) (w : World) : Calls Tryz.prog 82 #[.bool s, .agg #[.int .i64 0, .int .i64 0], .int .i64 e0, .bool mo] w fun e w' => e = .returned (.int .i64 (cellOf (double.word s 0))) ∧ Ext w w' := by
  have HC := Lib.hid (rcut_zero s mo e0)
  generalize cellOf (double.word s 0) = res at *
  go_enter Tryz.func82, Tryz.ntmps82
  go_wp2
  have o0 : Own (w.alloc (.cells #[Value.int .i64 0, Value.int .i64 0] 44)) w.heap.size (.int .i64 0) (.int .i64 0) := Own.last
  have hE : Ext w (w.alloc (.cells #[Value.int .i64 0, Value.int .i64 0] 44)) := (Ext.refl w).cells _ _
  go_loopw [2] (fun e wr => e = .int .i64 e0 ∧ Own wr w.heap.size (.int .i64 0) (.int .i64 0) ∧ Ext w wr) (fun e _ => 0)
  case atStart => exact ⟨rfl, o0, hE⟩
  case round =>
    obtain ⟨rfl, p, hx⟩ := hrel
    clear o0 hE
    have c0 := p.c0
    have c1 := p.c1
    have lt := p.lt
    go_wp2_with fail
    refine (HC.out _).mono ?_
    rintro e w' ⟨rfl, hx1⟩
    go_wp2_with fail
    go_ret
    exact ⟨rfl, hx.trans hx1⟩
/-- The document's rounding of a number that is told whole. -/
theorem rnd_exact (s : Bool) (m : Nat) (h : m < 42535295865117307932921825928971026432) (e0 : Int) (he : -10000 ≤ e0 ∧ e0 ≤ 10000) (w : World) :
    Calls Tryz.prog 82 #[.bool s, .agg #[.int .i64 (lo (m : Int)), .int .i64 (hi (m : Int))], .int .i64 e0, .bool false] w fun e w' => e = .returned (.int .i64 (cellOf (double.nearest s m e0))) ∧ Ext w w' := by
  by_cases h0 : m = 0
  · have e1 : lo ((m : Nat) : Int) = 0 := by rw [h0]; unfold lo wrap64; omega
    have e2 : hi ((m : Nat) : Int) = 0 := by rw [h0]; unfold hi wrap64; omega
    have e3 : double.nearest s m e0 = double.word s 0 := by rw [h0]; exact nearest_zero s e0
    rw [e1, e2, e3]
    exact rrounded_zero s false e0 w
  · have := rrounded2 s false m h0 h e0 he _ _ ⟨h, rfl, rfl⟩ w
    rw [topG_exact s m h0 h e0] at this
    exact this
/-- And of one of which something was cut off. -/
theorem rnd_more (s mo : Bool) (m : Nat) (h : m < 42535295865117307932921825928971026432) (hb : 9007199254740992 ≤ m) (e0 : Int) (he : -10000 ≤ e0 ∧ e0 ≤ 10000) {N : Nat} {p : Int} (hN : N ≠ 0) (hr : Rel N 1 p m e0 mo) (w : World) :
    Calls Tryz.prog 82 #[.bool s, .agg #[.int .i64 (lo (m : Int)), .int .i64 (hi (m : Int))], .int .i64 e0, .bool mo] w fun e w' => e = .returned (.int .i64 (cellOf (double.nearest s N p))) ∧ Ext w w' := by
  have := rrounded2 s mo m (by omega) h e0 he _ _ ⟨h, rfl, rfl⟩ w
  rw [topG_more s mo m hb e0 hN hr] at this
  exact this
end Go.Proofs.YtegcecpmdgljpaaGreatDoor

namespace Go.Proofs.YtegcecpmdgljpaaGreatDoor
open Ieee
set_option linter.unusedVariables false

/-- The word of a sum. -/
def addW (s : Bool) (m : Nat) (i : Int) (t : Bool) (n : Nat) (j : Int) : Nat :=
  let base := min i j
  let total := signed s m (i - base).toNat + signed t n (j - base).toNat
  double.nearest (if total = 0 then s && t else total < 0) total.natAbs base
theorem sum_write (s : Bool) (m : Nat) (i : Int) (t : Bool) (n : Nat) (j : Int) : ((Datum.number s m i).sum (.number t n j)).map double.write = some (addW s m i t n j) := rfl
theorem addW_comm (s : Bool) (m : Nat) (i : Int) (t : Bool) (n : Nat) (j : Int) : addW s m i t n j = addW t n j s m i := by
  unfold addW
  simp only [Int.min_comm i j, Bool.and_comm s t]
  rw [Int.add_comm]
section
variable {m n : Nat} {e1 e2 : Int}
theorem addW_base (s t : Bool) (h : e2 ≤ e1) : addW s m e1 t n e2 = double.nearest (if (if s then -((m * 2 ^ (e1 - e2).toNat : Nat) : Int) else ((m * 2 ^ (e1 - e2).toNat : Nat) : Int)) + (if t then -(n : Int) else (n : Int)) = 0 then s && t else (if s then -((m * 2 ^ (e1 - e2).toNat : Nat) : Int) else ((m * 2 ^ (e1 - e2).toNat : Nat) : Int)) + (if t then -(n : Int) else (n : Int)) < 0) ((if s then -((m * 2 ^ (e1 - e2).toNat : Nat) : Int) else ((m * 2 ^ (e1 - e2).toNat : Nat) : Int)) + (if t then -(n : Int) else (n : Int))).natAbs e2 := by
  have hb : min e1 e2 = e2 := by omega
  unfold addW
  simp only [hb, Int.sub_self, Int.toNat_zero]
  cases s <;> cases t <;> simp [signed_f, signed_t]
theorem addW_same (s : Bool) (h : e2 ≤ e1) : addW s m e1 s n e2 = double.nearest s (m * 2 ^ (e1 - e2).toNat + n) e2 := by
  rw [addW_base s s h]
  generalize m * 2 ^ (e1 - e2).toNat = P
  cases s
  · simp only [Bool.false_eq_true, if_false]
    rw [show ((P : Int) + (n : Int)).natAbs = P + n by omega]
    congr 1
    split
    · rfl
    · exact decide_eq_false (by omega)
  · simp only [if_true]
    rw [show (-(P : Int) + -(n : Int)).natAbs = P + n by omega]
    congr 1
    split
    · rfl
    · exact decide_eq_true (by omega)
theorem addW_gt (s t : Bool) (hs : s ≠ t) (h : e2 ≤ e1) (hg : n < m * 2 ^ (e1 - e2).toNat) : addW s m e1 t n e2 = double.nearest s (m * 2 ^ (e1 - e2).toNat - n) e2 := by
  rw [addW_base s t h]
  generalize m * 2 ^ (e1 - e2).toNat = P at *
  cases s <;> cases t
  · exact absurd rfl hs
  · simp only [Bool.false_eq_true, if_false, if_true]
    rw [show ((P : Int) + -(n : Int)).natAbs = P - n by omega, if_neg (by omega)]
    congr 1
    exact decide_eq_false (by omega)
  · simp only [Bool.false_eq_true, if_false, if_true]
    rw [show (-(P : Int) + (n : Int)).natAbs = P - n by omega, if_neg (by omega)]
    congr 1
    exact decide_eq_true (by omega)
  · exact absurd rfl hs
theorem addW_lt (s t : Bool) (hs : s ≠ t) (h : e2 ≤ e1) (hg : m * 2 ^ (e1 - e2).toNat < n) : addW s m e1 t n e2 = double.nearest t (n - m * 2 ^ (e1 - e2).toNat) e2 := by
  rw [addW_base s t h]
  generalize m * 2 ^ (e1 - e2).toNat = P at *
  cases s <;> cases t
  · exact absurd rfl hs
  · simp only [Bool.false_eq_true, if_false, if_true]
    rw [show ((P : Int) + -(n : Int)).natAbs = n - P by omega, if_neg (by omega)]
    congr 1
    exact decide_eq_true (by omega)
  · simp only [Bool.false_eq_true, if_false, if_true]
    rw [show (-(P : Int) + (n : Int)).natAbs = n - P by omega, if_neg (by omega)]
    congr 1
    exact decide_eq_false (by omega)
  · exact absurd rfl hs
theorem addW_eq (s t : Bool) (hs : s ≠ t) (h : e2 ≤ e1) (hg : m * 2 ^ (e1 - e2).toNat = n) : addW s m e1 t n e2 = double.word false 0 := by
  rw [addW_base s t h]
  generalize m * 2 ^ (e1 - e2).toNat = P at *
  have e : double.nearest false 0 e2 = double.word false 0 := nearest_zero false e2
  cases s <;> cases t
  · exact absurd rfl hs
  · simp only [Bool.false_eq_true, if_false, if_true]
    rw [show ((P : Int) + -(n : Int)) = 0 by omega]
    exact e
  · simp only [Bool.false_eq_true, if_false, if_true]
    rw [show (-(P : Int) + (n : Int)) = 0 by omega]
    exact e
  · exact absurd rfl hs
/-- Where the places are far apart: what the smaller one leaves. -/
theorem farr_split (h : 64 < e1 - e2) : (2 : Nat) ^ (e1 - e2).toNat = 2 ^ 11 * 2 ^ ((e1 - e2).toNat - 11) ∧ 18014398509481984 ≤ 2 ^ ((e1 - e2).toNat - 11) := by
  refine ⟨by rw [← Nat.pow_add]; congr 1; omega, ?_⟩
  have : (18014398509481984 : Nat) = 2 ^ 54 := by decide +kernel
  rw [this]
  exact Nat.pow_le_pow_right (by decide) (by omega)
theorem farr_same (h : 64 < e1 - e2) (hn : n < 9007199254740992) (h0 : n ≠ 0) : Rel (m * 2 ^ (e1 - e2).toNat + n) 1 e2 (m * 2048) (e1 - 11) true := by
  obtain ⟨a, b⟩ := farr_split h
  refine ⟨(e1 - e2).toNat - 11, by omega, ?_, ?_⟩
  · rw [Nat.one_mul, a, ← Nat.mul_assoc, Nat.add_comm, Nat.add_mul_div_right _ _ (Nat.two_pow_pos _), Nat.div_eq_of_lt (by omega), Nat.zero_add]
  · rw [Nat.one_mul, a, ← Nat.mul_assoc, Nat.add_comm, Nat.add_mul_mod_self_right, Nat.mod_eq_of_lt (by omega)]
    exact decide_eq_true h0
theorem farr_diff (h : 64 < e1 - e2) (hn : n < 9007199254740992) (h0 : n ≠ 0) (hm : m ≠ 0) : Rel (m * 2 ^ (e1 - e2).toNat - n) 1 e2 (m * 2048 - 1) (e1 - 11) true := by
  obtain ⟨a, b⟩ := farr_split h
  have e : m * 2 ^ (e1 - e2).toNat - n = (2 ^ ((e1 - e2).toNat - 11) - n) + (m * 2048 - 1) * 2 ^ ((e1 - e2).toNat - 11) := by
    rw [a, ← Nat.mul_assoc, Nat.sub_mul, Nat.one_mul, show (2 : Nat) ^ 11 = 2048 by decide]
    have := Nat.mul_le_mul_right (2 ^ ((e1 - e2).toNat - 11)) (show 1 ≤ m * 2048 by omega)
    omega
  refine ⟨(e1 - e2).toNat - 11, by omega, ?_, ?_⟩
  · rw [Nat.one_mul, e, Nat.add_mul_div_right _ _ (Nat.two_pow_pos _), Nat.div_eq_of_lt (by omega), Nat.zero_add]
  · rw [Nat.one_mul, e, Nat.add_mul_mod_self_right, Nat.mod_eq_of_lt (by omega)]
    exact decide_eq_true (by omega)
theorem farr_eqv (h : 64 < e1 - e2) (s : Bool) (hm : m ≠ 0) : double.nearest s (m * 2048) (e1 - 11) = double.nearest s (m * 2 ^ (e1 - e2).toNat) e2 := by
  obtain ⟨a, b⟩ := farr_split h
  have k := nearest_shift s (m * 2048) ((e1 - e2).toNat - 11) (e1 - 11) (by omega)
  rw [← k]
  congr 1
  · rw [a, ← Nat.mul_assoc]
  · omega
end
end Go.Proofs.YtegcecpmdgljpaaGreatDoor

namespace Go.Proofs.YtegcecpmdgljpaaGreatDoor
open Ieee Go
set_option linter.unusedVariables false

theorem compare_swap (x y : Int) : compare y x = (compare x y).swap := by
  rcases Int.lt_trichotomy x y with h | h | h
  · rw [Int.compare_eq_lt.2 h, Int.compare_eq_gt.2 h]; rfl
  · subst h; simp
  · rw [Int.compare_eq_gt.2 h, Int.compare_eq_lt.2 h]; rfl
theorem order_swap (x y : Nat) : double.order y x = (double.order x y).map Ordering.swap := by
  unfold Format.order
  cases double.read x with
  | nan s t => cases double.read y <;> rfl
  | infinity s =>
    cases double.read y with
    | nan s t => rfl
    | infinity t => cases s <;> cases t <;> rfl
    | number t n j => cases s <;> rfl
  | number s m i =>
    cases double.read y with
    | nan s t => rfl
    | infinity t => cases t <;> rfl
    | number t n j =>
      simp only [Datum.order, Option.map_some]
      rw [Int.min_comm j i, compare_swap]
/-- A sign and a rung as a number. -/
def keyW (s : Bool) (r : Nat) : Int := if s then -(r : Int) else (r : Int)
theorem order_opp (x y : Datum) : x.opposite.order y.opposite = y.order x := by
  cases x with
  | number s m e =>
    cases y with
    | number t n j =>
      show some (compare _ _) = some (compare _ _)
      congr 1
      have h : ∀ (a b : Int), compare (-a) (-b) = compare b a := fun a b => by
        simp only [compare, compareOfLessAndEq]
        by_cases h1 : a = b
        · subst h1; simp
        · by_cases h2 : b < a
          · rw [if_pos (by omega), if_pos h2]
          · rw [if_neg (by omega), if_neg (by omega), if_neg h2, if_neg (by omega)]
      have g : ∀ (b : Bool) (m u : Nat), signed (!b) m u = -signed b m u := fun b m u => by cases b <;> simp [signed]
      rw [g, g, h, Int.min_comm]
    | infinity t => cases t <;> rfl
    | nan t q => rfl
  | infinity s =>
    cases y with
    | number t n j => cases s <;> rfl
    | infinity t => cases s <;> cases t <;> rfl
    | nan t q => rfl
  | nan s q => cases y <;> rfl
theorem read_opp (r : Nat) (h : r ≤ 9218868437227405312) : double.read (double.word true r) = (double.read (double.word false r)).opposite := by
  by_cases h2 : r = 9218868437227405312
  · subst h2
    rw [read_inf, read_inf]
    rfl
  · rw [read_fin true (by omega), read_fin false (by omega)]
    rfl
theorem rM_zero {r : Nat} (h : rM r = 0) (hr : r < 9218868437227405312) : r = 0 := by
  unfold rM at h
  split at h
  · exact h
  · omega
theorem order_words (s t : Bool) (r q : Nat) (hr : r ≤ 9218868437227405312) (hq : q ≤ 9218868437227405312) : double.order (double.word s r) (double.word t q) = some (compare (keyW s r) (keyW t q)) := by
  have pos : ∀ (a b : Nat), a ≤ 9218868437227405312 → b ≤ 9218868437227405312 → double.order (double.word false a) (double.word false b) = some (compare (a : Int) (b : Int)) := fun a b ha hb => by
    rw [word_f, word_f]
    rcases Nat.lt_trichotomy a b with h | h | h
    · rw [order_lt h hb]
      congr 1
      simp only [compare, compareOfLessAndEq]
      rw [if_pos (by omega)]
    · subst h
      rw [order_eq ha]
      congr 1
      simp [compare, compareOfLessAndEq]
    · rw [order_gt h ha]
      congr 1
      simp only [compare, compareOfLessAndEq]
      rw [if_neg (by omega), if_neg (by omega)]
  have opp : ∀ (a b : Nat), a ≤ 9218868437227405312 → b ≤ 9218868437227405312 → double.order (double.word true a) (double.word true b) = double.order (double.word false b) (double.word false a) := fun a b ha hb => by
    unfold Format.order
    rw [read_opp a ha, read_opp b hb, order_opp]
  have hcmp : ∀ a b : Int, compare (-a) (-b) = compare b a := fun a b => by
    simp only [compare, compareOfLessAndEq]
    by_cases h1 : a = b
    · subst h1; simp
    · by_cases h2 : b < a
      · rw [if_pos (by omega), if_pos h2]
      · rw [if_neg (by omega), if_neg (by omega), if_neg h2, if_neg (by omega)]
  have mix : ∀ (a b : Nat), a ≤ 9218868437227405312 → b ≤ 9218868437227405312 → double.order (double.word true a) (double.word false b) = some (compare (-(a : Int)) (b : Int)) := fun a b ha hb => by
    unfold Format.order
    by_cases ha2 : a = 9218868437227405312
    · subst ha2
      rw [read_inf]
      have hc : compare (-((9218868437227405312 : Nat) : Int)) (b : Int) = .lt := by
        simp only [compare, compareOfLessAndEq]
        rw [if_pos (by omega)]
      rw [hc]
      by_cases hb2 : b = 9218868437227405312
      · subst hb2; rw [read_inf]; rfl
      · rw [read_fin false (by omega)]; rfl
    · rw [read_fin true (by omega)]
      by_cases hb2 : b = 9218868437227405312
      · subst hb2
        rw [read_inf]
        have hc : compare (-(a : Int)) ((9218868437227405312 : Nat) : Int) = .lt := by
          simp only [compare, compareOfLessAndEq]
          rw [if_pos (by omega)]
        rw [hc]
        rfl
      · rw [read_fin false (by omega)]
        show some (compare (signed true (rM a) _) (signed false (rM b) _)) = _
        congr 1
        rw [signed_t, signed_f]
        have ka : ∀ u, rM a * 2 ^ u = 0 ↔ a = 0 := fun u => ⟨fun h => rM_zero ((Nat.mul_eq_zero.1 h).elim id fun h => absurd h (pow_ne u)) (by omega), fun h => by subst h; simp [rM]⟩
        have kb : ∀ u, rM b * 2 ^ u = 0 ↔ b = 0 := fun u => ⟨fun h => rM_zero ((Nat.mul_eq_zero.1 h).elim id fun h => absurd h (pow_ne u)) (by omega), fun h => by subst h; simp [rM]⟩
        have k1 := ka (rE a - min (rE a) (rE b)).toNat
        have k2 := kb (rE b - min (rE a) (rE b)).toNat
        generalize rM a * 2 ^ (rE a - min (rE a) (rE b)).toNat = x at *
        generalize rM b * 2 ^ (rE b - min (rE a) (rE b)).toNat = y at *
        simp only [compare, compareOfLessAndEq]
        by_cases h0 : a = 0 ∧ b = 0
        · rw [if_neg (by omega), if_pos (by omega), if_neg (by omega), if_pos (by omega)]
        · rw [if_pos (by omega), if_pos (by omega)]
  cases s <;> cases t
  · exact pos r q hr hq
  · rw [order_swap, mix q r hq hr]
    unfold keyW
    simp only [Bool.false_eq_true, if_false, if_true, Option.map_some]
    rw [← compare_swap]
  · exact mix r q hr hq
  · rw [opp r q hr hq, pos q r hq hr]
    unfold keyW
    simp only [if_true]
    rw [hcmp]
/-- The cell of a word. -/
theorem cell_key (f : Int) (hf : -9223372036854775808 ≤ f ∧ f ≤ 9223372036854775807) (s : Bool) (r : Nat) (hr : r ≤ 9218868437227405312) (hx : (IntKind.u64.wrap f).toNat = double.word s r) : f = if s then (r : Int) - 9223372036854775808 else (r : Int) := by
  rw [Go.IntKind.wrap_u64, word_d] at hx
  cases s
  · simp at hx
    simp
    omega
  · simp at hx
    simp
    omega
/-- What the document says of two words: is one below? -/
def belowV (s : Bool) (r : Nat) (t : Bool) (q : Nat) : Bool := if r = 0 ∧ q = 0 then false else if s != t then s else if s then decide (q < r) else decide (r < q)
theorem below_is (s t : Bool) (r q : Nat) : belowV s r t q = decide (keyW s r < keyW t q) := by
  unfold belowV keyW
  by_cases h : r = 0 ∧ q = 0
  · rw [if_pos h]
    obtain ⟨rfl, rfl⟩ := h
    cases s <;> cases t <;> rfl
  · rw [if_neg h]
    cases s <;> cases t
    · simp
    · simp
    · simp
      omega
    · simp
theorem cmp_lt (a b : Int) : (some (compare a b) == some Ordering.lt) = decide (a < b) := by
  simp only [compare, compareOfLessAndEq]
  by_cases h : a < b
  · rw [if_pos h, decide_eq_true h]; rfl
  · rw [if_neg h, decide_eq_false h]
    split <;> rfl
theorem cmp_eq (a b : Int) : (some (compare a b) == some Ordering.eq) = (!decide (a < b) && !decide (b < a)) := by
  simp only [compare, compareOfLessAndEq]
  by_cases h : a < b
  · rw [if_pos h, decide_eq_true h]; rfl
  · rw [if_neg h, decide_eq_false h]
    by_cases h2 : a = b
    · subst h2
      rw [if_pos rfl, decide_eq_false h]; rfl
    · rw [if_neg h2, decide_eq_true (show b < a by omega)]; rfl
end Go.Proofs.YtegcecpmdgljpaaGreatDoor

namespace Go.Proofs.YtegcecpmdgljpaaGreatDoor
open Ieee
set_option linter.unusedVariables false

/-- The word of a quotient. -/
def divN (m n : Nat) : Nat := 2 * ((m <<< (54 + n.log2 - m.log2)) / n) + ((m <<< (54 + n.log2 - m.log2)) % n != 0).toNat
def divP (m : Nat) (i : Int) (n : Nat) (j : Int) : Int := i - j - (54 + n.log2 - m.log2 : Nat) - 1
theorem quot_write (s : Bool) (m : Nat) (i : Int) (t : Bool) (n : Nat) (j : Int) (hn : n ≠ 0) : ((Datum.number s m i).quotient 54 (.number t n j)).map double.write = some (double.nearest (s ^^ t) (divN m n) (divP m i n j)) := by
  simp only [Datum.quotient, if_neg hn]
  rfl
theorem topG_more2 (s mo : Bool) (m : Nat) (h0 : m ≠ 0) (e0 : Int) (t : Nat) (hb : 9007199254740992 ≤ m / 2 ^ t) {N : Nat} {p : Int} (hN : N ≠ 0) (hr : Rel N 1 p (m / 2 ^ t) (e0 + (t : Int)) (mo || decide (m % 2 ^ t ≠ 0))) : cutR s (topG m e0 mo) = double.nearest s N p := by
  have hm53 : 9007199254740992 ≤ m := Nat.le_trans hb (Nat.div_le_self _ _)
  have hd : m * 2 ^ topJ m / 2 ^ topJ m = m := Nat.mul_div_cancel _ (Nat.two_pow_pos _)
  have hm : m * 2 ^ topJ m % 2 ^ topJ m = 0 := Nat.mul_mod_left _ _
  obtain ⟨f', h1, h2⟩ := cutF_pass (topJ m) _ (m * 2 ^ topJ m) (e0 - (topJ m : Int)) mo (by rw [hd]; exact hm53) (Nat.le_refl _)
  unfold topG
  rw [h1, hd, hm, show e0 - (topJ m : Int) + (topJ m : Int) = e0 by omega]
  rw [hd, show e0 - (topJ m : Int) + (topJ m : Int) = e0 by omega] at h2
  have e : (mo || decide ((0 : Nat) ≠ 0)) = mo := by simp
  rw [e]
  obtain ⟨f2, h3, h4⟩ := cutF_pass t f' m e0 mo hb h2
  rw [h3]
  exact cut_all s f2 hN hr h4 hb
section
variable {m n : Nat}
/-- How far each is moved up. -/
def upK (m : Nat) : Nat := 52 - m.log2
theorem upK_lt (h0 : m ≠ 0) (h : m < 9007199254740992) (k : Nat) : m * 2 ^ k < 4503599627370496 ↔ k < upK m := by
  have e : (4503599627370496 : Nat) = 2 ^ 52 := by decide +kernel
  rw [e, ← Nat.log2_lt (Nat.mul_ne_zero h0 (pow_ne k)), log2_mul_pow m k h0]
  unfold upK
  omega
theorem upK_top (h0 : m ≠ 0) (h : m < 9007199254740992) : 4503599627370496 ≤ m * 2 ^ upK m ∧ m * 2 ^ upK m < 9007199254740992 := by
  have e1 : (9007199254740992 : Nat) = 2 ^ 53 := by decide +kernel
  have hl := log2_lt53 h h0
  refine ⟨Nat.le_of_not_lt fun q => by have := (upK_lt h0 h (upK m)).1 q; omega, ?_⟩
  rw [e1, ← Nat.log2_lt (Nat.mul_ne_zero h0 (pow_ne _)), log2_mul_pow m _ h0]
  unfold upK
  omega
/-- The quotient of both, moved up, and 64 places more. -/
def bigQ (m n : Nat) : Nat := m * 2 ^ upK m * 18446744073709551616 / (n * 2 ^ upK n)
theorem bigQ_parts (hm : m ≠ 0) (hm2 : m < 9007199254740992) (hn : n ≠ 0) (hn2 : n < 9007199254740992) : bigQ m n = (m * 2 ^ upK m / (n * 2 ^ upK n)) * 18446744073709551616 + (m * 2 ^ upK m % (n * 2 ^ upK n)) * 18446744073709551616 / (n * 2 ^ upK n) ∧ (m * 2 ^ upK m % (n * 2 ^ upK n)) * 18446744073709551616 % (n * 2 ^ upK n) = m * 2 ^ upK m * 18446744073709551616 % (n * 2 ^ upK n) := by
  unfold bigQ
  have hb : 0 < n * 2 ^ upK n := Nat.pos_of_ne_zero (Nat.mul_ne_zero hn (pow_ne _))
  generalize m * 2 ^ upK m = a at *
  generalize n * 2 ^ upK n = b at *
  have hd := Nat.div_add_mod a b
  have e : a * 18446744073709551616 = a % b * 18446744073709551616 + b * (a / b * 18446744073709551616) := by
    conv => lhs; rw [← hd]
    rw [Nat.add_mul, Nat.mul_assoc, Nat.add_comm]
  constructor
  · rw [e, Nat.add_mul_div_left _ _ hb, Nat.add_comm]
  · rw [e, Nat.add_mul_mod_self_left]
theorem log_sum (hm : m ≠ 0) (hm2 : m < 9007199254740992) (hn : n ≠ 0) (hn2 : n < 9007199254740992) : (54 + n.log2 - m.log2) + upK n = upK m + 54 := by
  have h1 := log2_lt53 hm2 hm
  have h2 := log2_lt53 hn2 hn
  unfold upK
  omega
theorem bigQ_lt (hm : m ≠ 0) (hm2 : m < 9007199254740992) (hn : n ≠ 0) (hn2 : n < 9007199254740992) : bigQ m n < 42535295865117307932921825928971026432 := by
  have h1 := (upK_top hm hm2).2
  unfold bigQ
  refine Nat.lt_of_le_of_lt (Nat.div_le_self _ _) ?_
  omega
theorem quo_rel (hm : m ≠ 0) (hm2 : m < 9007199254740992) (hn : n ≠ 0) (hn2 : n < 9007199254740992) (i j : Int) : 9007199254740992 ≤ bigQ m n / 2 ^ 10 ∧ divN m n ≠ 0 ∧ Rel (divN m n) 1 (divP m i n j) (bigQ m n / 2 ^ 10) (i - (upK m : Int) - (j - (upK n : Int)) - 64 + ((10 : Nat) : Int)) (decide (m * 2 ^ upK m * 18446744073709551616 % (n * 2 ^ upK n) ≠ 0) || decide (bigQ m n % 2 ^ 10 ≠ 0)) := by
  have hs := log_sum hm hm2 hn hn2
  have hr : ∃ r, r = 54 + n.log2 - m.log2 := ⟨_, rfl⟩
  obtain ⟨r, hr⟩ := hr
  have hD : m <<< (54 + n.log2 - m.log2) = m * 2 ^ r := by rw [Nat.shiftLeft_eq, hr]
  have hA : m * 2 ^ upK m * 18446744073709551616 = m * 2 ^ r * (2 ^ upK n * 2 ^ 10) := by
    rw [show (18446744073709551616 : Nat) = 2 ^ 64 by decide +kernel, Nat.mul_assoc, Nat.mul_assoc, ← Nat.pow_add, ← Nat.pow_add, ← Nat.pow_add]
    congr 2
    omega
  have hB : n * 2 ^ upK n * 2 ^ 10 = n * (2 ^ upK n * 2 ^ 10) := Nat.mul_assoc ..
  have hp : 0 < 2 ^ upK n * 2 ^ 10 := Nat.mul_pos (Nat.two_pow_pos _) (by decide)
  have q1 : bigQ m n / 2 ^ 10 = m * 2 ^ r / n := by
    unfold bigQ
    rw [Nat.div_div_eq_div_mul, hB, hA, Nat.mul_div_mul_right _ _ hp]
  have q2 : (decide (m * 2 ^ upK m * 18446744073709551616 % (n * 2 ^ upK n) ≠ 0) || decide (bigQ m n % 2 ^ 10 ≠ 0)) = decide (m * 2 ^ r % n ≠ 0) := by
    have e : m * 2 ^ upK m * 18446744073709551616 % (n * 2 ^ upK n * 2 ^ 10) = m * 2 ^ upK m * 18446744073709551616 % (n * 2 ^ upK n) + n * 2 ^ upK n * (bigQ m n % 2 ^ 10) := Nat.mod_mul
    rw [hB, hA, Nat.mul_mod_mul_right, ← hA] at e
    have hb : n * 2 ^ upK n ≠ 0 := Nat.mul_ne_zero hn (pow_ne _)
    rw [Bool.eq_iff_iff]
    simp only [Bool.or_eq_true, decide_eq_true_eq]
    constructor
    · intro h z
      rw [z, Nat.zero_mul] at e
      rcases h with h | h
      · omega
      · have := Nat.mul_ne_zero hb h
        omega
    · intro h
      refine Classical.byContradiction fun k => ?_
      have k1 : m * 2 ^ upK m * 18446744073709551616 % (n * 2 ^ upK n) = 0 := Classical.byContradiction fun z => k (Or.inl z)
      have k2 : bigQ m n % 2 ^ 10 = 0 := Classical.byContradiction fun z => k (Or.inr z)
      rw [k1, k2, Nat.mul_zero, Nat.add_zero] at e
      have := Nat.mul_ne_zero h (Nat.ne_of_gt hp)
      omega
  have hbig : 9007199254740992 ≤ m * 2 ^ r / n := by
    rw [Nat.le_div_iff_mul_le (Nat.pos_of_ne_zero hn)]
    have a := Nat.log2_self_le hm
    have b : n < 2 ^ (n.log2 + 1) := Nat.lt_log2_self
    have e1 : (9007199254740992 : Nat) = 2 ^ 53 := by decide +kernel
    have h1 := log2_lt53 hm2 hm
    have c := Nat.mul_le_mul_right (2 ^ r) a
    rw [← Nat.pow_add] at c
    have d := Nat.mul_le_mul_left (2 ^ 53) (Nat.le_of_lt b)
    rw [← Nat.pow_add] at d
    rw [e1]
    refine Nat.le_trans d (Nat.le_trans (Nat.le_of_eq ?_) c)
    congr 1
    omega
  have hN : divN m n = 2 * (m * 2 ^ r / n) + (m * 2 ^ r % n != 0).toNat := by unfold divN; rw [hD]
  refine ⟨by rw [q1]; exact hbig, by omega, 1, ?_, ?_, ?_⟩
  · unfold divP
    rw [← hr]
    have := hs
    rw [← hr] at this
    omega
  · rw [q1, hN, Nat.one_mul, Nat.pow_one]
    cases (m * 2 ^ r % n != 0) <;> simp <;> omega
  · rw [q2, hN, Nat.one_mul, Nat.pow_one]
    by_cases z : m * 2 ^ r % n = 0
    · rw [z]; simp
    · have : (m * 2 ^ r % n != 0) = true := bne_iff_ne.2 z
      rw [this]
      simp [z]
theorem quo_near (s : Bool) (hm : m ≠ 0) (hm2 : m < 9007199254740992) (hn : n ≠ 0) (hn2 : n < 9007199254740992) (i j : Int) : cutR s (topG (bigQ m n) (i - (upK m : Int) - (j - (upK n : Int)) - 64) (decide (m * 2 ^ upK m * 18446744073709551616 % (n * 2 ^ upK n) ≠ 0))) = double.nearest s (divN m n) (divP m i n j) := by
  obtain ⟨h1, h2, h3⟩ := quo_rel hm hm2 hn hn2 i j
  have h0 : bigQ m n ≠ 0 := by
    intro z
    rw [z] at h1
    simp at h1
  exact topG_more2 s _ (bigQ m n) h0 _ 10 h1 h2 h3
end
end Go.Proofs.YtegcecpmdgljpaaGreatDoor
