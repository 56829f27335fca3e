/- The document's answers for layer 2: the division without signs, and the one that rounds towards 0. Condition: cells are integers of 64 bits. Plain arithmetic on numbers as text: letters, what is taken in, texts and their order. No Go text is spoken of. The document's answers for layer 3 (package rhytonref03): letters, digits. Condition: numbers of 64 bits. Layer 3 (package digit): bases, letters, digits. No condition. The document's answers for layer 3: what is taken off a number. Condition: cells are integers of 64 bits, the base is from 2 to 36. The document's answers for layer 3: numbers as text. Condition: cells are integers of 64 bits. The document's answers for layer 3: what is taken in of a text. Condition: cells are integers of 64 bits, the base is from 2 to 36. Layer 3 (package digit): what is taken off a number, and one digit taken in. Condition: cells are integers of 64 bits, the base is from 2 to 36. Layer 3 (package digit): numbers as text. Condition: cells are integers of 64 bits, the base is from 2 to 36. The document's answers for layer 3: numbers with a sign as text. Condition: cells are integers of 64 bits, the base is from 2 to 36. The document's answers for layer 3: the number that a text is. Condition: the text is of at most 1000000000 bytes, the base is from 2 to 36. Layer 3 (package digit): numbers with a sign as text; the base that a text tells. Condition: cells are integers of 64 bits, the base is from 2 to 36. -/
import Derived.Test.YtegcecpmdgljpaaGreatDoorMGC
import Derived.Test.YtegcecpmdgljpaaGreatDoorNum
import Derived.Laws.IdiomStrings
import Derived.Deep.DeepCutAuto
import Derived.Deep.CutBlock
namespace Go.Proofs.YtegcecpmdgljpaaGreatDoor
open Go.RowKit
set_option linter.unusedVariables false

theorem rudiv_zero (w0 : World) (a c r q : Int) (k : Bool) (w : World) (h : Ext w0 w) :
    Calls Tryz.prog 36 #[.agg #[.int .i64 a, .int .i64 c], .int .i64 0] w fun e w' => e = .returned (.tuple #[.int .i64 (okR true k r), .int .i64 (okR true k q), .int .i64 (okE true k)]) ∧ Ext w0 w' := by
  go_enter Tryz.func36, Tryz.ntmps36
  go_wp2
  go_ret3
  exact ⟨rfl, h.cells _ _⟩
set_option maxRecDepth 100000 in
theorem rudiv_near (w0 : World) (a c b x y L : Int) (hz2 : (b == 0) = false) (hz3 : ¬ b = 0) (hr : (y != 0) = false)
    (hdv : RowKit.Hid (∀ w, Calls Tryz.prog 57 #[.agg #[.int .i64 a, .int .i64 c], .int .i64 b] w fun e w' => e = .returned (.tuple #[.int .i64 L, .agg #[.int .i64 x, .int .i64 y]]) ∧ Ext w w')) (w : World) (h : Ext w0 w) :
    Calls Tryz.prog 36 #[.agg #[.int .i64 a, .int .i64 c], .int .i64 b] w fun e w' => e = .returned (.tuple #[.int .i64 L, .int .i64 x, .int .i64 0]) ∧ Ext w0 w' := by
  go_enter Tryz.func36, Tryz.ntmps36
  go_wp2_with fail
  have hs0 := h.1.size
  refine (hdv.out _).mono ?_
  rintro e w1 ⟨rfl, hx1⟩
  have hX := (h.cells _ _).trans hx1
  have lt := hX.1.size
  clear h hx1 hdv
  go_wp2_with fail
  go_region
  go_wp2
  go_ret3
  exact ⟨rfl, (hX.cells _ _).drew⟩
set_option maxRecDepth 100000 in
theorem rudiv_far (w0 : World) (a c b x y L : Int) (hz2 : (b == 0) = false) (hz3 : ¬ b = 0) (hr : (y != 0) = true)
    (hdv : RowKit.Hid (∀ w, Calls Tryz.prog 57 #[.agg #[.int .i64 a, .int .i64 c], .int .i64 b] w fun e w' => e = .returned (.tuple #[.int .i64 L, .agg #[.int .i64 x, .int .i64 y]]) ∧ Ext w w')) (w : World) (h : Ext w0 w) :
    Calls Tryz.prog 36 #[.agg #[.int .i64 a, .int .i64 c], .int .i64 b] w fun e w' => e = .returned (.tuple #[.int .i64 0, .int .i64 0, .int .i64 (-11)]) ∧ Ext w0 w' := by
  go_enter Tryz.func36, Tryz.ntmps36
  go_wp2_with fail
  have hs0 := h.1.size
  refine (hdv.out _).mono ?_
  rintro e w1 ⟨rfl, hx1⟩
  have hX := (h.cells _ _).trans hx1
  have lt := hX.1.size
  clear h hx1 hdv
  go_wp2_with fail
  go_ret3
  exact ⟨rfl, hX.cells _ _⟩
theorem rudiv_calls (w0 : World) (a c b : Int) (ha : I64 a) (hc : I64 c) (hb : I64 b) (w : World) (h : Ext w0 w) :
    Calls Tryz.prog 36 #[.agg #[.int .i64 a, .int .i64 c], .int .i64 b] w fun e w' => e = .returned (.tuple #[.int .i64 (okR (b == 0) (decide (W a c / U b ≤ 18446744073709551615)) (wrap64 (W a c % U b))), .int .i64 (okR (b == 0) (decide (W a c / U b ≤ 18446744073709551615)) (lo (W a c / U b))), .int .i64 (okE (b == 0) (decide (W a c / U b ≤ 18446744073709551615)))]) ∧ Ext w0 w' := by
  by_cases hz : b = 0
  · subst hz
    exact rudiv_zero w0 a c _ _ _ w h
  · have hz2 : (b == 0) = false := by simpa using hz
    obtain ⟨w1, w2⟩ := W_bd a c
    obtain ⟨P, hP⟩ := Int.eq_ofNat_of_zero_le w1
    obtain ⟨u1, u2⟩ := U_bd b
    obtain ⟨B, hB⟩ := Int.eq_ofNat_of_zero_le u1
    have hdv := Lib.hid (fun w => rlong_calls w a c b ha hc hb hz P B hP hB w (Ext.refl w))
    have hlt : P / B < 340282366920938463463374607431768211456 := Nat.lt_of_le_of_lt (Nat.div_le_self _ _) (by omega)
    have hr := udiv_range (P / B) hlt
    rw [hP, hB, ediv_nat, emod_nat, hz2]
    have e3 : decide (((P / B : Nat) : Int) ≤ 18446744073709551615) = decide (P / B ≤ 18446744073709551615) := by rw [decide_eq_decide]; omega
    rw [e3]
    by_cases hq : P / B ≤ 18446744073709551615
    · have hd : decide (P / B ≤ 18446744073709551615) = true := decide_eq_true hq
      rw [hd] at hr ⊢
      rw [okR_near, okR_near, okE_near]
      exact rudiv_near w0 a c b _ _ _ hz2 hz (by rw [bne, hr]; rfl) hdv w h
    · have hd : decide (P / B ≤ 18446744073709551615) = false := decide_eq_false hq
      rw [hd] at hr ⊢
      rw [okR_far, okR_far, okE_far]
      exact rudiv_far w0 a c b _ _ _ hz2 hz (by rw [bne, hr]; rfl) hdv w h

theorem rneg_mk (n : Int) (W : World) : Calls Tryz.prog 22 #[.agg #[.int .i64 (lo n), .int .i64 (hi n)]] W fun e w' => e = .returned (.agg #[.int .i64 (lo (-n)), .int .i64 (hi (-n))]) ∧ Ext W w' := by
  have h := rneg_calls W (lo n) (hi n) (lo_i64 n) (hi_i64 n) W (Ext.refl W)
  rw [(neg_same n).1, (neg_same n).2] at h
  exact h
end Go.Proofs.YtegcecpmdgljpaaGreatDoor

namespace Go.Proofs.YtegcecpmdgljpaaGreatDoor
set_option linter.unusedVariables false

/-- The letter of a digit. -/
def letter (n : Nat) : UInt8 := if n < 10 then (48 + n).toUInt8 else (55 + n).toUInt8
/-- The digit whose letter it is, great or small. -/
def vdig (c : UInt8) : Option Nat :=
  if 48 ≤ c.toNat ∧ c.toNat ≤ 57 then some (c.toNat - 48) else if 65 ≤ c.toNat ∧ c.toNat ≤ 90 then some (c.toNat - 55) else if 97 ≤ c.toNat ∧ c.toNat ≤ 122 then some (c.toNat - 87) else none
def valueOf (c : UInt8) (b : Nat) : Option Nat := match vdig c with
  | some d => if d < b then some d else none
  | none => none
theorem letter_val : ∀ n : Fin 36, vdig (letter n.val) = some n.val := by decide +kernel
theorem letter_mono : ∀ n m : Fin 36, n < m → (letter n.val) < (letter m.val) := by decide +kernel
theorem letter_zero : ∀ n : Fin 36, letter n.val = 48 → n.val = 0 := by decide +kernel
theorem value_letter {n b : Nat} (h : n < b) (hb : b ≤ 36) : valueOf (letter n) b = some n := by
  have := letter_val ⟨n, by omega⟩
  unfold valueOf
  simp only at this
  rw [this]
  simp [h]
def two128 : Nat := 340282366920938463463374607431768211456
/-- What is taken in of a text: the number, and how many letters are left. -/
def acc (b : Nat) : Nat → List UInt8 → Nat × Nat
  | p, [] => (p, 0)
  | p, c :: l => match valueOf c b with
    | none => (p, l.length + 1)
    | some d => acc b ((p * b + d) % two128) l
theorem acc_none {b p : Nat} {c : UInt8} {l : List UInt8} (h : valueOf c b = none) : acc b p (c :: l) = (p, l.length + 1) := by simp [acc, h]
theorem acc_some {b p d : Nat} {c : UInt8} {l : List UInt8} (h : valueOf c b = some d) : acc b p (c :: l) = acc b ((p * b + d) % two128) l := by simp [acc, h]
/-- Piece by piece. -/
theorem acc_append (b : Nat) : ∀ (l m : List UInt8) (p : Nat), acc b p (l ++ m) = if (acc b p l).2 = 0 then acc b (acc b p l).1 m else ((acc b p l).1, (acc b p l).2 + m.length) := by
  intro l
  induction l with
  | nil => intro m p; simp [acc]
  | cons c l ih =>
    intro m p
    cases h : valueOf c b with
    | none => rw [List.cons_append, acc_none h, acc_none h]; simp; omega
    | some d => rw [List.cons_append, acc_some h, acc_some h]; exact ih m _
theorem acc_left (b : Nat) : ∀ (l : List UInt8) (p : Nat), (acc b p l).2 ≤ l.length := by
  intro l
  induction l with
  | nil => intro p; simp [acc]
  | cons c l ih =>
    intro p
    cases h : valueOf c b with
    | none => rw [acc_none h]; simp
    | some d => rw [acc_some h]; have := ih ((p * b + d) % two128); simp; omega
/-- Where letters are left, the first of them is no digit. -/
theorem acc_stop (b : Nat) : ∀ (l : List UInt8) (p : Nat), (acc b p l).2 ≠ 0 → ∃ c, l[l.length - (acc b p l).2]? = some c ∧ valueOf c b = none := by
  intro l
  induction l with
  | nil => intro p h; exact absurd rfl h
  | cons c l ih =>
    intro p h
    cases hv : valueOf c b with
    | none => rw [acc_none hv]; exact ⟨c, by simp, hv⟩
    | some d =>
      rw [acc_some hv] at h ⊢
      obtain ⟨x, h1, h2⟩ := ih _ h
      refine ⟨x, ?_, h2⟩
      have hl := acc_left b l ((p * b + d) % two128)
      rw [show (c :: l).length - (acc b ((p * b + d) % two128) l).2 = (l.length - (acc b ((p * b + d) % two128) l).2) + 1 by simp; omega]
      simpa using h1
theorem acc_whole (b : Nat) : ∀ (l : List UInt8) (p : Nat), (acc b p l).2 = 0 ↔ ∀ c ∈ l, valueOf c b ≠ none := by
  intro l
  induction l with
  | nil => intro p; simp [acc]
  | cons c l ih =>
    intro p
    cases h : valueOf c b with
    | none => rw [acc_none h]; simp [h]
    | some d => rw [acc_some h, ih]; simp [h]

/-- The text of a number, with some fuel. -/
def txt (b : Nat) : Nat → Nat → List UInt8
  | 0, n => [letter (n % b)]
  | f + 1, n => if n / b = 0 then [letter (n % b)] else txt b f (n / b) ++ [letter (n % b)]
def text (b n : Nat) : List UInt8 := txt b 127 n
theorem txt_fuel (b : Nat) (hb : 2 ≤ b) : ∀ (f n : Nat), n < 2 ^ (f + 1) → ∀ g, f ≤ g → txt b g n = txt b f n := by
  intro f
  induction f with
  | zero =>
    intro n hn g hg
    have h0 : n / b = 0 := Nat.div_eq_of_lt (by omega)
    cases g with
    | zero => rfl
    | succ g => simp [txt, h0]
  | succ f ih =>
    intro n hn g hg
    obtain ⟨g, rfl⟩ : ∃ k, g = k + 1 := ⟨g - 1, by omega⟩
    have hlt : n / b < 2 ^ (f + 1) := by
      rw [Nat.div_lt_iff_lt_mul (by omega)]
      have : 2 ^ (f + 1) * 2 ≤ 2 ^ (f + 1) * b := Nat.mul_le_mul_left _ hb
      rw [Nat.pow_succ] at hn
      omega
    simp only [txt]
    rw [ih _ hlt g (by omega)]
theorem txt_succ (b f n : Nat) : txt b (f + 1) n = if n / b = 0 then [letter (n % b)] else txt b f (n / b) ++ [letter (n % b)] := rfl
theorem text_step (b n : Nat) (hb : 2 ≤ b) (hn : n < two128) : text b n = if n / b = 0 then [letter (n % b)] else text b (n / b) ++ [letter (n % b)] := by
  have hlt : n / b < 2 ^ 127 := by
    rw [Nat.div_lt_iff_lt_mul (by omega)]
    have : 2 ^ 127 * 2 ≤ 2 ^ 127 * b := Nat.mul_le_mul_left _ hb
    have h2 : 2 ^ 127 * 2 = two128 := by decide
    omega
  have e : text b (n / b) = txt b 126 (n / b) := txt_fuel b hb 126 (n / b) hlt 127 (by omega)
  rw [e]
  exact txt_succ b 126 n
theorem text_ne (b n : Nat) : text b n ≠ [] := by
  unfold text
  rw [show (127 : Nat) = 126 + 1 from rfl, txt_succ]
  split <;> simp
/-- By the quotient: for what holds of a text. -/
theorem text_ind (b : Nat) (hb : 2 ≤ b) (C : Nat → List UInt8 → Prop) (one : ∀ n, n < b → n < two128 → C n [letter n]) (more : ∀ n l, n < two128 → n / b ≠ 0 → C (n / b) l → C n (l ++ [letter (n % b)])) : ∀ n, n < two128 → C n (text b n) := by
  intro n
  induction n using Nat.strongRecOn with
  | ind n ih =>
    intro hn
    rw [text_step b n hb hn]
    by_cases h0 : n / b = 0
    · rw [if_pos h0]
      have hlt : n < b := (Nat.div_eq_zero_iff_lt (by omega)).1 h0
      rw [Nat.mod_eq_of_lt hlt]
      exact one n hlt hn
    · rw [if_neg h0]
      have hlt : n / b < n := Nat.div_lt_self (by rcases Nat.eq_zero_or_pos n with h | h; subst h; simp at h0; exact h) (by omega)
      exact more n _ hn h0 (ih _ hlt (by omega))
theorem acc_text (b n : Nat) (hb : 2 ≤ b) (hb2 : b ≤ 36) (hn : n < two128) : acc b 0 (text b n) = (n, 0) := by
  refine text_ind b hb (fun n l => acc b 0 l = (n, 0)) ?_ ?_ n hn
  · intro n h1 h2
    rw [acc_some (value_letter h1 hb2)]
    simp [acc, Nat.mod_eq_of_lt h2]
  · intro n l h1 h2 h3
    have hd := Nat.div_add_mod n b
    rw [Nat.mul_comm] at hd
    rw [acc_append, h3, if_pos rfl, acc_some (value_letter (Nat.mod_lt _ (by omega)) hb2), hd]
    simp [acc, Nat.mod_eq_of_lt h1]
theorem text_bounds (b n : Nat) (hb : 2 ≤ b) (hn : n < two128) : n < b ^ (text b n).length ∧ (n ≠ 0 → b ^ ((text b n).length - 1) ≤ n) ∧ (text b n ≠ [] ∧ (n = 0 → (text b n).length = 1)) := by
  refine text_ind b hb (fun n l => n < b ^ l.length ∧ (n ≠ 0 → b ^ (l.length - 1) ≤ n) ∧ (l ≠ [] ∧ (n = 0 → l.length = 1))) ?_ ?_ n hn
  · intro n h1 h2
    refine ⟨by simpa using h1, ?_, by simp, by simp⟩
    intro h; simp; omega
  · intro n l h1 h2 ⟨h3, h4, h5, h6⟩
    have h7 := h4 h2
    have hl : 1 ≤ l.length := by cases l with
      | nil => exact absurd rfl h5
      | cons _ _ => simp
    have hd := Nat.div_add_mod n b
    have hm := Nat.mod_lt n (show 0 < b by omega)
    refine ⟨?_, ?_, by simp, ?_⟩
    · rw [List.length_append, List.length_singleton, Nat.pow_succ]
      have : (n / b + 1) * b ≤ b ^ l.length * b := Nat.mul_le_mul_right _ h3
      rw [Nat.add_mul, Nat.one_mul, Nat.mul_comm] at this
      omega
    · intro _
      rw [List.length_append, List.length_singleton, Nat.add_sub_cancel]
      have : b ^ (l.length - 1) * b ≤ n / b * b := Nat.mul_le_mul_right _ h7
      rw [← Nat.pow_succ, show (l.length - 1).succ = l.length by omega] at this
      exact Nat.le_trans this (Nat.div_mul_le_self _ _)
    · intro h0; subst h0; simp at h2
theorem text_length (b n : Nat) (hb : 2 ≤ b) (hn : n < two128) : 1 ≤ (text b n).length ∧ (text b n).length ≤ 128 := by
  obtain ⟨h1, h2, h3, h4⟩ := text_bounds b n hb hn
  refine ⟨by cases h : text b n with
    | nil => exact absurd h h3
    | cons _ _ => simp, ?_⟩
  by_cases h0 : n = 0
  · rw [h4 h0]; omega
  · have h5 := h2 h0
    refine Nat.le_of_not_lt fun hlt => ?_
    have h6 : 2 ^ 128 ≤ 2 ^ ((text b n).length - 1) := Nat.pow_le_pow_right (by omega) (by omega)
    have h7 : 2 ^ ((text b n).length - 1) ≤ b ^ ((text b n).length - 1) := Nat.pow_le_pow_left hb _
    have h8 : (2 : Nat) ^ 128 = two128 := by decide
    omega
/-- The first letter is no 0, but of a text of one letter. -/
theorem text_head (b n : Nat) (hb : 2 ≤ b) (hb2 : b ≤ 36) (hn : n < two128) : (text b n).length = 1 ∨ (text b n).head? ≠ some 48 := by
  have h := text_ind b hb (fun n l => l ≠ [] ∧ (n ≠ 0 → l.head? ≠ some 48) ∧ (n = 0 → l.length = 1)) ?_ ?_ n hn
  · by_cases h0 : n = 0
    · exact .inl (h.2.2 h0)
    · exact .inr (h.2.1 h0)
  · intro n h1 h2
    refine ⟨by simp, ?_, by simp⟩
    intro h
    simp only [List.head?_cons, ne_eq, Option.some.injEq]
    exact fun hc => h (letter_zero ⟨n, by omega⟩ hc)
  · intro n l h1 h2 ⟨h3, h4, h5⟩
    refine ⟨by simp, ?_, ?_⟩
    · intro _
      cases l with
      | nil => exact absurd rfl h3
      | cons a l => exact h4 h2
    · intro h0; subst h0; simp at h2
theorem lt_snoc : ∀ (l m : List UInt8) (x y : UInt8), l.length = m.length → (l ++ [x] < m ++ [y] ↔ l < m ∨ (l = m ∧ x < y)) := by
  intro l
  induction l with
  | nil =>
    intro m x y h
    cases m with
    | nil => simp [List.cons_lt_cons_iff]
    | cons _ _ => simp at h
  | cons a l ih =>
    intro m x y h
    cases m with
    | nil => simp at h
    | cons c m =>
      simp only [List.cons_append, List.cons_lt_cons_iff, ih m x y (by simpa using h), List.cons.injEq]
      constructor
      · rintro (h1 | ⟨h1, h2 | ⟨h2, h3⟩⟩)
        · exact .inl (.inl h1)
        · exact .inl (.inr ⟨h1, h2⟩)
        · exact .inr ⟨⟨h1, h2⟩, h3⟩
      · rintro ((h1 | ⟨h1, h2⟩) | ⟨⟨h1, h2⟩, h3⟩)
        · exact .inl h1
        · exact .inr ⟨h1, .inl h2⟩
        · exact .inr ⟨h1, .inr ⟨h2, h3⟩⟩
theorem text_inj (b n m : Nat) (hb : 2 ≤ b) (hb2 : b ≤ 36) (hn : n < two128) (hm : m < two128) (h : text b n = text b m) : n = m := by
  have h1 := acc_text b n hb hb2 hn
  have h2 := acc_text b m hb hb2 hm
  rw [h, h2] at h1
  injection h1 with h1 _
  exact h1.symm
theorem letter_lt {x y : Nat} (hx : x < 36) (hy : y < 36) : letter x < letter y ↔ x < y := by
  constructor
  · intro h
    refine Nat.lt_of_not_le fun hle => ?_
    rcases Nat.lt_or_eq_of_le hle with h1 | h1
    · exact absurd h (UInt8.lt_asymm (letter_mono ⟨y, hy⟩ ⟨x, hx⟩ h1))
    · subst h1; exact UInt8.lt_irrefl _ h
  · intro h; exact letter_mono ⟨x, hx⟩ ⟨y, hy⟩ h
theorem lt_parts (b n m : Nat) (hb : 0 < b) : n < m ↔ n / b < m / b ∨ (n / b = m / b ∧ n % b < m % b) := by
  have h1 := Nat.div_add_mod n b
  have h2 := Nat.div_add_mod m b
  have h3 := Nat.mod_lt n hb
  have h4 := Nat.mod_lt m hb
  have key : ∀ q q' : Nat, q < q' → b * q + b ≤ b * q' := fun q q' h => by
    have : b * (q + 1) ≤ b * q' := Nat.mul_le_mul_left _ h
    rwa [Nat.mul_add, Nat.mul_one] at this
  rcases Nat.lt_trichotomy (n / b) (m / b) with h | h | h
  · have := key _ _ h
    omega
  · rw [h] at h1
    omega
  · have := key _ _ h
    omega
/-- A longer text, or one that is greater letter by letter, is of the greater number. -/
theorem text_lt (b : Nat) (hb : 2 ≤ b) (hb2 : b ≤ 36) : ∀ n m : Nat, n < two128 → m < two128 → (((text b n).length < (text b m).length ∨ ((text b n).length = (text b m).length ∧ text b n < text b m)) ↔ n < m) := by
  intro n
  induction n using Nat.strongRecOn with
  | ind n ih =>
    intro m hn hm
    have hln := text_length b (n / b) hb (Nat.lt_of_le_of_lt (Nat.div_le_self _ _) hn)
    have hlm := text_length b (m / b) hb (Nat.lt_of_le_of_lt (Nat.div_le_self _ _) hm)
    have hp := lt_parts b n m (by omega)
    have hx := Nat.mod_lt n (show 0 < b by omega)
    have hy := Nat.mod_lt m (show 0 < b by omega)
    rw [text_step b n hb hn, text_step b m hb hm]
    by_cases h0 : n / b = 0
    · by_cases h1 : m / b = 0
      · rw [if_pos h0, if_pos h1, hp, h0, h1]
        simp only [List.length_singleton, Nat.lt_irrefl, true_and, false_or, List.cons_lt_cons_iff, List.not_lt_nil, and_false, or_false]
        exact letter_lt (by omega) (by omega)
      · have hq := Nat.pos_of_ne_zero h1
        rw [if_pos h0, if_neg h1, hp, h0]
        simp only [List.length_append, List.length_singleton]
        omega
    · by_cases h1 : m / b = 0
      · have hq := Nat.pos_of_ne_zero h0
        rw [if_neg h0, if_pos h1, hp, h1]
        simp only [List.length_append, List.length_singleton]
        omega
      · rw [if_neg h0, if_neg h1]
        have hlt : n / b < n := Nat.div_lt_self (by rcases Nat.eq_zero_or_pos n with h | h; subst h; simp at h0; exact h) (by omega)
        have hI := ih (n / b) hlt (m / b) (by omega) (Nat.lt_of_le_of_lt (Nat.div_le_self _ _) hm)
        have hinj := text_inj b (n / b) (m / b) hb hb2 (by omega) (Nat.lt_of_le_of_lt (Nat.div_le_self _ _) hm)
        simp only [List.length_append, List.length_singleton]
        rw [hp, ← hI]
        by_cases hlen : (text b (n / b)).length = (text b (m / b)).length
        · have hs := lt_snoc _ _ (letter (n % b)) (letter (m % b)) hlen
          rw [hs, letter_lt (by omega) (by omega), hlen]
          constructor
          · rintro (h | ⟨_, h | ⟨h2, h3⟩⟩)
            · omega
            · exact .inl (.inr ⟨rfl, h⟩)
            · exact .inr ⟨hinj h2, h3⟩
          · rintro ((h | ⟨_, h⟩) | ⟨h2, h3⟩)
            · omega
            · exact .inr ⟨rfl, .inl h⟩
            · exact .inr ⟨rfl, .inr ⟨by rw [h2], h3⟩⟩
        · constructor
          · rintro (h | ⟨h, _⟩)
            · exact .inl (.inl (by omega))
            · omega
          · rintro ((h | ⟨h, _⟩) | ⟨h, _⟩)
            · exact .inl (by omega)
            · exact absurd h hlen
            · rw [h] at hlen; exact absurd rfl hlen
end Go.Proofs.YtegcecpmdgljpaaGreatDoor

namespace Go.Proofs.YtegcecpmdgljpaaGreatDoor
open Go.RowKit
set_option linter.unusedVariables false

theorem letters_fin : ∀ n : Fin 36, (⟨#[48, 49, 50, 51, 52, 53, 54, 55, 56, 57, 65, 66, 67, 68, 69, 70, 71, 72, 73, 74, 75, 76, 77, 78, 79, 80, 81, 82, 83, 84, 85, 86, 87, 88, 89, 90]⟩ : ByteArray).data[n.val]? = some (letter n.val) := by decide +kernel
theorem letters_at (n : Nat) (h : n < (⟨#[48, 49, 50, 51, 52, 53, 54, 55, 56, 57, 65, 66, 67, 68, 69, 70, 71, 72, 73, 74, 75, 76, 77, 78, 79, 80, 81, 82, 83, 84, 85, 86, 87, 88, 89, 90]⟩ : ByteArray).size) : (⟨#[48, 49, 50, 51, 52, 53, 54, 55, 56, 57, 65, 66, 67, 68, 69, 70, 71, 72, 73, 74, 75, 76, 77, 78, 79, 80, 81, 82, 83, 84, 85, 86, 87, 88, 89, 90]⟩ : ByteArray)[n] = letter n := by
  have h2 : n < 36 := h
  have e := letters_fin ⟨n, h2⟩
  have e2 : (⟨#[48, 49, 50, 51, 52, 53, 54, 55, 56, 57, 65, 66, 67, 68, 69, 70, 71, 72, 73, 74, 75, 76, 77, 78, 79, 80, 81, 82, 83, 84, 85, 86, 87, 88, 89, 90]⟩ : ByteArray).data[n]? = some ((⟨#[48, 49, 50, 51, 52, 53, 54, 55, 56, 57, 65, 66, 67, 68, 69, 70, 71, 72, 73, 74, 75, 76, 77, 78, 79, 80, 81, 82, 83, 84, 85, 86, 87, 88, 89, 90]⟩ : ByteArray)[n]) := Array.getElem?_eq_getElem h
  rw [e2] at e
  exact Option.some.inj e
theorem ret_u8 {a b : Int} (h : a = b) : Ending.returned (.int .u8 a) = .returned (.int .u8 b) := by rw [h]
theorem rright_calls (b : Int) (w : World) : Calls Tryz.prog 47 #[.int .i64 b] w fun e w' => e = .returned (.bool (decide (2 ≤ b ∧ b ≤ 36))) ∧ w = w' := by
  by_cases h1 : 2 ≤ b
  · by_cases h2 : b ≤ 36
    · rw [decide_eq_true (And.intro h1 h2)]
      go_enter Tryz.func47, Tryz.ntmps47
      go_wp2
      go_ret
      exact ⟨rfl, rfl⟩
    · rw [decide_eq_false (fun h => h2 h.2)]
      have h3 : 36 < b := by omega
      go_enter Tryz.func47, Tryz.ntmps47
      go_wp2
      go_ret
      exact ⟨rfl, rfl⟩
  · rw [decide_eq_false (fun h => h1 h.1)]
    have h3 : b < 2 := by omega
    go_enter Tryz.func47, Tryz.ntmps47
    go_wp2
    go_ret
    exact ⟨rfl, rfl⟩
/-- What Value tells: the digit, and whether there is one. -/
def vN (c : UInt8) (b : Nat) : Nat := (valueOf c b).getD 0
def vB (c : UInt8) (b : Nat) : Bool := (valueOf c b).isSome
/-- Does the letter of a digit, great or small, equal a byte? -/
def hit (c : UInt8) (i : Nat) : Bool := letter i == c || (decide (9 < i) && letter i + 32 == c)
theorem hit_val : ∀ i : Fin 36, ∀ c : Fin 256, hit c.val.toUInt8 i.val = true → vdig c.val.toUInt8 = some i.val := by decide +kernel
theorem val_hit : ∀ c : Fin 256, ∀ d, vdig c.val.toUInt8 = some d → d < 36 ∧ hit c.val.toUInt8 d = true := by
  intro c d h
  have key : ∀ c : Fin 256, (match vdig c.val.toUInt8 with | some d => decide (d < 36) && hit c.val.toUInt8 d | none => true) = true := by decide +kernel
  have := key c
  rw [h] at this
  simpa using this
theorem hit_iff (c : UInt8) (i : Nat) (hi : i < 36) : hit c i = true ↔ vdig c = some i := by
  have hc : c = (⟨c.toNat, c.toNat_lt⟩ : Fin 256).val.toUInt8 := by simp
  constructor
  · intro h
    rw [hc] at h ⊢
    exact hit_val ⟨i, hi⟩ _ h
  · intro h
    rw [hc] at h ⊢
    exact (val_hit _ _ h).2
theorem letter_bd : ∀ i : Fin 36, 48 ≤ (letter i.val).toNat ∧ (letter i.val).toNat ≤ 90 := by decide +kernel
theorem hit_nat (c : UInt8) (i : Nat) (hi : i < 36) : hit c i = (((letter i).toNat : Int) == (c.toNat : Int) || (decide (9 < i) && ((letter i).toNat : Int) + 32 == (c.toNat : Int))) := by
  have hb := letter_bd ⟨i, hi⟩
  simp only at hb
  have e1 : (letter i == c) = (((letter i).toNat : Int) == (c.toNat : Int)) := by
    rw [Bool.eq_iff_iff, beq_iff_eq, beq_iff_eq, ← UInt8.toNat_inj]; omega
  have e2 : (letter i + 32 == c) = (((letter i).toNat : Int) + 32 == (c.toNat : Int)) := by
    rw [Bool.eq_iff_iff, beq_iff_eq, beq_iff_eq, ← UInt8.toNat_inj, UInt8.toNat_add]
    have : (32 : UInt8).toNat = 32 := rfl
    omega
  unfold hit
  rw [e1, e2]
theorem no_value (c : UInt8) (b : Nat) (h : ∀ j, j < b → j < 36 → hit c j = false) : valueOf c b = none := by
  unfold valueOf
  cases hv : vdig c with
  | none => rfl
  | some d =>
    have hc : c = (⟨c.toNat, c.toNat_lt⟩ : Fin 256).val.toUInt8 := by simp
    have hd : d < 36 := (val_hit _ d (by rw [← hc]; exact hv)).1
    have hh := (hit_iff c d hd).2 hv
    by_cases hb : d < b
    · rw [h d hb hd] at hh; cases hh
    · simp [hb]
theorem a_value (c : UInt8) (b i : Nat) (hi : i < 36) (hb : i < b) (h : hit c i = true) : valueOf c b = some i := by
  unfold valueOf
  rw [(hit_iff c i hi).1 h]
  simp [hb]
end Go.Proofs.YtegcecpmdgljpaaGreatDoor

namespace Go.Proofs.YtegcecpmdgljpaaGreatDoor
open Go.RowKit
set_option linter.unusedVariables false

theorem isbase_calls (b : Int) (w : World) : Calls Tryz.prog 237 #[.int .i64 b] w fun e w' => e = .returned (.bool (decide (2 ≤ b ∧ b ≤ 36))) ∧ w = w' := by
  by_cases h1 : 2 ≤ b
  · by_cases h2 : b ≤ 36
    · rw [decide_eq_true (And.intro h1 h2)]
      go_enter Tryz.func237, Tryz.ntmps237
      go_wp2
      go_ret
      exact ⟨rfl, rfl⟩
    · rw [decide_eq_false (fun h => h2 h.2)]
      have h3 : 36 < b := by omega
      go_enter Tryz.func237, Tryz.ntmps237
      go_wp2
      go_ret
      exact ⟨rfl, rfl⟩
  · rw [decide_eq_false (fun h => h1 h.1)]
    have h3 : b < 2 := by omega
    go_enter Tryz.func237, Tryz.ntmps237
    go_wp2
    go_ret
    exact ⟨rfl, rfl⟩
theorem letter_nat : ∀ n : Fin 36, (letter n.val).toNat = if n.val < 10 then 48 + n.val else 55 + n.val := by decide +kernel
theorem char_in (n : Nat) (h : n < 36) (w : World) : Calls Tryz.prog 263 #[.int .i64 (n : Int)] w fun e w' => e = .returned (.int .u8 ((letter n).toNat : Int)) ∧ w = w' := by
  have e := letter_nat ⟨n, h⟩
  simp only at e
  rw [e]
  clear e
  by_cases h1 : n < 10
  · rw [if_pos h1]
    have h2 : (n : Int) < 10 := by omega
    have h3 : (0 : Int) ≤ (n : Int) := by omega
    go_enter Tryz.func263, Tryz.ntmps263
    go_wp2
    go_ret
    exact ⟨ret_u8 (by simp), rfl⟩
  · rw [if_neg h1]
    have h2 : ¬ (n : Int) < 10 := by omega
    have h3 : (0 : Int) ≤ (n : Int) := by omega
    have h4 : (10 : Int) ≤ (n : Int) := by omega
    have h5 : (n : Int) < 36 := by omega
    go_enter Tryz.func263, Tryz.ntmps263
    go_wp2
    go_ret
    exact ⟨ret_u8 (by omega), rfl⟩
theorem char_out (n : Int) (h : n < 0 ∨ 35 < n) (w : World) : Calls Tryz.prog 263 #[.int .i64 n] w fun e w' => e = .returned (.int .u8 0) ∧ w = w' := by
  rcases h with h | h
  · have h2 : ¬ 0 ≤ n := by omega
    have h3 : ¬ 10 ≤ n := by omega
    go_enter Tryz.func263, Tryz.ntmps263
    go_wp2
    go_ret
    exact ⟨rfl, rfl⟩
  · have h2 : 0 ≤ n := by omega
    have h3 : 10 ≤ n := by omega
    have h4 : ¬ n < 10 := by omega
    have h5 : ¬ n < 36 := by omega
    go_enter Tryz.func263, Tryz.ntmps263
    go_wp2
    go_ret
    exact ⟨rfl, rfl⟩
def dN (c : UInt8) : Nat := (vdig c).getD 0
def dB (c : UInt8) : Bool := (vdig c).isSome
end Go.Proofs.YtegcecpmdgljpaaGreatDoor

namespace Go.Proofs.YtegcecpmdgljpaaGreatDoor
open Go.RowKit
set_option linter.unusedVariables false

theorem wrap_few (n : Nat) (h : n < 36) : wrap64 (n : Int) = (n : Int) ∧ U (n : Int) = (n : Int) ∧ I64 (n : Int) := by
  unfold I64 wrap64 U; omega
theorem U_few (b : Int) (B : Nat) (hb : b = B) (h : B ≤ 36) : U b = (B : Int) := by unfold U; omega
theorem W_two (a l : Int) (X n : Nat) (hX : U a = (X : Int)) (hl : U l = (n : Int)) : W a l = ((n * 18446744073709551616 + X : Nat) : Int) := by
  unfold W
  rw [hX, hl]
  omega
theorem dec_few (n : Nat) (h : n < 18446744073709551616) : decide ((n : Int) ≤ 18446744073709551615) = true := decide_eq_true (by omega)
theorem step_math (a c b : Int) (P B : Nat) (hP : W a c = P) (hb : b = B) (h2 : 2 ≤ B) (h36 : B ≤ 36) : ∃ l h1 r h2' : Int,
    W c 0 / U b = h1 ∧ wrap64 (W c 0 % U b) = l ∧ decide (h1 ≤ 18446744073709551615) = true ∧ W a l / U b = h2' ∧ wrap64 (W a l % U b) = r ∧ decide (h2' ≤ 18446744073709551615) = true
      ∧ lo h2' = lo ((P / B : Nat) : Int) ∧ lo h1 = hi ((P / B : Nat) : Int) ∧ r = ((P % B : Nat) : Int) ∧ I64 l := by
  obtain ⟨X, Y, P', hX, hY, hP', hPe, hXl, hYl⟩ := W_nat a c
  obtain rfl : P' = P := by omega
  have hU := U_few b B hb h36
  have hB0 : 0 < B := Nat.lt_of_lt_of_le (by decide) h2
  have hr : Y % B < B := Nat.mod_lt _ hB0
  have hr36 : Y % B < 36 := Nat.lt_of_lt_of_le hr h36
  have e1 : W c 0 = (Y : Int) := by rw [W_low, hY]
  obtain ⟨el, eU, eI⟩ := wrap_few (Y % B) hr36
  have e2 := W_two a ((Y % B : Nat) : Int) X (Y % B) hX eU
  obtain ⟨w1, w2⟩ := word_div Y X B hB0
  rw [← hPe] at w1 w2
  have q1 : (Y % B * 18446744073709551616 + X) / B < 18446744073709551616 := by
    rw [Nat.div_lt_iff_lt_mul hB0]
    calc Y % B * 18446744073709551616 + X < (Y % B + 1) * 18446744073709551616 := by rw [Nat.add_mul, Nat.one_mul]; exact Nat.add_lt_add_left hXl _
      _ ≤ B * 18446744073709551616 := Nat.mul_le_mul_right _ hr
      _ = 18446744073709551616 * B := Nat.mul_comm _ _
  have q2 : Y / B < 18446744073709551616 := Nat.lt_of_le_of_lt (Nat.div_le_self _ _) hYl
  obtain ⟨l1, l2⟩ := lo_hi_nat (Y / B) ((Y % B * 18446744073709551616 + X) / B) q1 q2
  rw [w1] at l1 l2
  have hr2 : P' % B < 36 := Nat.lt_of_lt_of_le (Nat.mod_lt _ hB0) h36
  refine ⟨((Y % B : Nat) : Int), ((Y / B : Nat) : Int), ((P' % B : Nat) : Int), (((Y % B * 18446744073709551616 + X) / B : Nat) : Int), ?_, ?_, ?_, ?_, ?_, ?_, ?_, ?_, rfl, ?_⟩
  · rw [e1, hU, ediv_nat]
  · rw [e1, hU, emod_nat, el]
  · exact dec_few _ q2
  · rw [e2, hU, ediv_nat]
  · rw [e2, hU, emod_nat, w2]; exact (wrap_few _ hr2).1
  · exact dec_few _ q1
  · exact l1
  · exact l2
  · exact eI
set_option maxRecDepth 100000 in
theorem rstep_calls (w0 : World) (a c b : Int) (ha : I64 a) (hc : I64 c) (P B : Nat) (hP : W a c = P) (hb : b = B) (h2 : 2 ≤ B) (h36 : B ≤ 36) (w : World) (h : Ext w0 w) :
    Calls Tryz.prog 64 #[.agg #[.int .i64 a, .int .i64 c], .int .i64 b] w fun e w' => e = .returned (.tuple #[.agg #[.int .i64 (lo ((P / B : Nat) : Int)), .int .i64 (hi ((P / B : Nat) : Int))], .int .u8 ((letter (P % B)).toNat : Int)]) ∧ Ext w0 w' := by
  obtain ⟨l, q1, r, q2, m1, m2, m3, m4, m5, m6, m7, m8, m9, hl⟩ := step_math a c b P B hP hb h2 h36
  have hbI : I64 b := by unfold I64; omega
  have hz : (b == 0) = false := by simp; omega
  have hx := fun W' => rudiv_calls W' c 0 b hc (by unfold I64; omega) hbI W' (Ext.refl W')
  rw [m1, m2, m3, hz, okR_near, okR_near, okE_near] at hx
  have c1 := Lib.hid hx
  clear hx
  have hx := fun W' => rudiv_calls W' a l b ha hl hbI W' (Ext.refl W')
  rw [m4, m5, m6, hz, okR_near, okR_near, okE_near, m7, m9] at hx
  rw [m8] at c1
  have c2 := Lib.hid hx
  clear hx
  have hr := Lib.hid (rright_calls b)
  have hR : P % B < 36 := Nat.lt_of_lt_of_le (Nat.mod_lt P (Nat.lt_of_lt_of_le (by decide) h2)) h36
  have hd : decide (2 ≤ b ∧ b ≤ 36) = true := decide_eq_true ⟨by omega, by omega⟩
  rw [hd] at hr
  clear m1 m2 m3 m4 m5 m6 m7 m8 m9 hP ha hc hbI hz hb h2 h36 hd hl
  obtain ⟨x, hx⟩ : ∃ x, x = lo ((P / B : Nat) : Int) := ⟨_, rfl⟩
  obtain ⟨y, hy⟩ : ∃ x, x = hi ((P / B : Nat) : Int) := ⟨_, rfl⟩
  obtain ⟨R, hRR⟩ : ∃ x, x = P % B := ⟨_, rfl⟩
  rw [← hx, ← hRR] at c2
  rw [← hy] at c1
  rw [← hx, ← hy, ← hRR]
  rw [← hRR] at hR
  clear hx hy hRR
  have hR2 : (R : Int) < 36 := by omega
  go_enter Tryz.func64, Tryz.ntmps64
  go_wp2_with fail
  refine (hr.out _).mono ?_
  rintro e w1 ⟨rfl, rfl⟩
  obtain ⟨o0, o1⟩ := own2 w (.int .i64 a) (.int .i64 c) (.int .i64 0) (.int .i64 0)
  have hs0 := h.1.size
  have hX := (h.cells #[.int .i64 a, .int .i64 c] 44).cells #[.int .i64 0, .int .i64 0] 44
  clear h hr
  go_wp2_with fail
  refine (c1.out _).mono ?_
  rintro e w2 ⟨rfl, hx2⟩
  replace o0 := o0.ext hx2
  replace o1 := o1.ext hx2
  replace hX := hX.trans hx2
  clear hx2 c1
  have p0 := o0.c0
  have p1 := o0.c1
  go_wp2_with fail
  refine (c2.out _).mono ?_
  rintro e w3 ⟨rfl, hx3⟩
  replace o1 := o1.ext hx3
  replace hX := hX.trans hx3
  clear hx3 c2 p0 p1 o0
  have g0 := o1.c0
  have g1 := o1.c1
  have f0 := o1.f0
  have f1 := o1.f1
  have lt := o1.lt
  have hd0 : (0 : Int) ≤ R := by omega
  go_wp2_with fail
  go_region
  go_wp2
  have o9 := o1.set (.int .i64 x) (.int .i64 y)
  have k0 := o9.c0
  have k1 := o9.c1
  refine bodyPost_ret (v := .tuple #[.agg #[.int .i64 x, .int .i64 y], .int .u8 ((letter R).toNat : Int)]) ?_ rfl ⟨rfl, (hX.set2 (n := w.heap.size + 1) (by omega) _ _).drew⟩
  simp [results, Tryz.results64, go_sem, k0, k1]
  rw [letters_at]
end Go.Proofs.YtegcecpmdgljpaaGreatDoor

namespace Go.Proofs.YtegcecpmdgljpaaGreatDoor
open Go.RowKit
set_option linter.unusedVariables false

def bytes (l : List UInt8) : ByteArray := ⟨l.toArray⟩
theorem bytes_size (l : List UInt8) : (bytes l).size = l.length := by show l.toArray.size = _; simp
theorem bytes_append (l m : List UInt8) : bytes l ++ bytes m = bytes (l ++ m) := by
  unfold bytes
  rw [ByteArray.mk_append_mk]
  try simp
theorem conv_byte (W : World) (o : Obj) (u : UInt8) : (convert 59 9 (.slice (some ⟨W.heap.size + 1, 0, none⟩) 1 1)).run Tryz.prog ((W.alloc o).alloc (.cells #[.int .u8 (u.toNat : Int)] 5)) = .ok (.string (bytes [u])) ((W.alloc o).alloc (.cells #[.int .u8 (u.toNat : Int)] 5)) := by
  refine run_convert_bytes_back (P := Tryz.prog) _ 59 9 5 ⟨W.heap.size + 1, 0, none⟩ 1 [u] Tryz.underlying59 Tryz.underlying5 Tryz.underlying9 ?_
  intro j hj
  have hj0 : j = 0 := by simpa using hj
  subst hj0
  have hb : ((W.alloc o).alloc (.cells #[.int .u8 (u.toNat : Int)] 5)).heap[W.heap.size + 1]? = some (.cells #[.int .u8 (u.toNat : Int)] 5) := by
    have := (MapKept.heap_alloc (W.alloc o) (.cells #[.int .u8 (u.toNat : Int)] 5)).1
    rwa [size_alloc] at this
  have ha : (⟨W.heap.size + 1, 0, none⟩ : Addr).add 0 = ⟨W.heap.size + 1, 0, none⟩ := by simp [Addr.add]
  rw [ha]
  simp only [World.cell?, hb]
  rfl
theorem add_byte (u : UInt8) (l : List UInt8) (h : l.length ≤ 1000000) (W : World) : (Op.stringOp .add (bytes [u]) (bytes l)).run Tryz.prog W = .ok (.string (bytes (u :: l))) W := by
  rw [run_string_add_sum W _ _ (by rw [bytes_size, bytes_size]; simp; omega), bytes_append]
  rfl
def strLen : Value → Nat
  | .string b => b.size
  | _ => 0
theorem W_at (a c : Int) (ha : I64 a) (hc : I64 c) (P : Nat) (hP : W a c = P) : a = lo (P : Int) ∧ c = hi (P : Int) ∧ P < two128 := by
  have h1 := W_bd a c
  obtain ⟨k, hk⟩ := W_V a c
  rw [hP] at hk h1
  refine ⟨?_, ?_, by unfold two128; omega⟩
  · rw [hk, lo_off, lo_V ha]
  · rw [hk, hi_off, hi_V hc]
theorem W_of (N : Nat) (h : N < two128) : W (lo (N : Int)) (hi (N : Int)) = N := W_mk _ (by omega) (by unfold two128 at h; omega)
theorem zero_pair (N : Nat) (h : N < two128) : (lo (N : Int) == 0 && hi (N : Int) == 0) = decide (N = 0) := by
  rw [Bool.eq_iff_iff]
  simp only [Bool.and_eq_true, beq_iff_eq, decide_eq_true_eq]
  unfold two128 at h
  unfold lo hi wrap64
  omega
set_option maxRecDepth 100000 in
set_option maxHeartbeats 2000000 in
theorem rtext_calls (w0 : World) (a c b : Int) (ha : I64 a) (hc : I64 c) (P B : Nat) (hP : W a c = P) (hb : b = B) (h2 : 2 ≤ B) (h36 : B ≤ 36) (w : World) (h : Ext w0 w) :
    Calls Tryz.prog 38 #[.agg #[.int .i64 a, .int .i64 c], .int .i64 b] w fun e w' => e = .returned (.string (bytes (text B P))) ∧ Ext w0 w' := by
  obtain ⟨e1, e2, hPl⟩ := W_at a c ha hc P hP
  have hr := Lib.hid (rright_calls b)
  have hd : decide (2 ≤ b ∧ b ≤ 36) = true := decide_eq_true ⟨by omega, by omega⟩
  rw [hd] at hr
  have hst := Lib.hid (fun (N : Nat) (hN : N < two128) W' => rstep_calls W' (lo (N : Int)) (hi (N : Int)) b (lo_i64 _) (hi_i64 _) N B (W_of N hN) hb h2 h36 W' (Ext.refl W'))
  have HE := Lib.hid (And.intro e1 e2)
  have HP := Lib.hid hPl
  have HB := Lib.hid (And.intro h2 h36)
  clear e1 e2 ha hc hP hb hd hPl h2 h36
  go_enter Tryz.func38, Tryz.ntmps38
  go_wp2_with fail
  refine (hr.out _).mono ?_
  rintro e w1 ⟨rfl, rfl⟩
  have o0 := Own.last (X := w) (x := Value.int .i64 a) (y := Value.int .i64 c) (t := 44)
  have hs0 := h.1.size
  have hX := h.cells #[.int .i64 a, .int .i64 c] 44
  clear h hr
  go_wp2_with fail
  go_loopw [5] (fun s wr => ∃ (N : Nat) (l : List UInt8), N < two128 ∧ s = .string (bytes l) ∧ RowKit.Hid (text B P = text B N ++ l) ∧ Own wr w.heap.size (.int .i64 (lo (N : Int))) (.int .i64 (hi (N : Int))) ∧ Ext w0 wr) (fun s _ => 128 - strLen s)
  case atStart =>
    refine ⟨P, [], HP.out, rfl, Lib.hid (by simp), ?_, hX⟩
    rw [← HE.out.1, ← HE.out.2]
    exact o0
  case round =>
    obtain ⟨N, l, hN, rfl, HT, o, hE⟩ := hrel
    clear o0 hX
    have HN := Lib.hid hN
    have p0 := o.c0
    have p1 := o.c1
    have hstN := Lib.hid (hst.out N hN)
    obtain ⟨M, hM⟩ : ∃ m, m = N / B := ⟨_, rfl⟩
    obtain ⟨u, hu⟩ : ∃ m, m = letter (N % B) := ⟨_, rfl⟩
    rw [← hM, ← hu] at hstN
    obtain ⟨m0, hm0⟩ : ∃ m, m = lo (M : Int) := ⟨_, rfl⟩
    obtain ⟨m1, hm1⟩ : ∃ m, m = hi (M : Int) := ⟨_, rfl⟩
    rw [← hm0, ← hm1] at hstN
    have HM0 := Lib.hid hm0
    have HM1 := Lib.hid hm1
    clear hm0 hm1
    have HM := Lib.hid hM
    have HU := Lib.hid hu
    clear hM hu
    clear hN
    go_wp2_with fail
    refine (hstN.out _).mono ?_
    rintro e w2 ⟨rfl, hx⟩
    replace o := o.ext hx
    replace hE := hE.trans hx
    clear hx hstN p0 p1
    have p0 := o.c0
    have p1 := o.c1
    have f0 := o.f0
    have f1 := o.f1
    have lt := o.lt
    have hlen : l.length ≤ 1000000 := by
      have e := congrArg List.length HT.out
      rw [List.length_append] at e
      have := text_length B P HB.out.1 HP.out
      omega
    have hcv := conv_byte w2 (.cells #[.int .i64 m0, .int .i64 m1] 44) u
    have had := add_byte u l hlen
    have HL := Lib.hid hlen
    clear hlen
    have hMl : M < two128 := by rw [HM.out]; exact Nat.lt_of_le_of_lt (Nat.div_le_self _ _) HN.out
    have hzp := zero_pair M hMl
    have HML := Lib.hid hMl
    clear hMl
    rw [← HM0.out, ← HM1.out] at hzp
    by_cases hz : M = 0
    · rw [decide_eq_true hz] at hzp
      have HZ := Lib.hid hz
      clear hz
      have hfin : RowKit.Hid (text B P = u :: l) := Lib.hid (by
        rw [HT.out, text_step B N HB.out.1 HN.out, if_pos (by rw [← HM.out]; exact HZ.out), HU.out]
        rfl)
      go_wp2_with fail
      go_ret
      exact ⟨by rw [hfin.out]; rfl, ((hE.set2 hs0 _ _).cells _ _).cells _ _⟩
    · rw [decide_eq_false hz] at hzp
      have HZ := Lib.hid hz
      clear hz
      go_wp2_with fail
      go_roundw
      case rel =>
        refine ⟨M, u :: l, HML.out, rfl, Lib.hid ?_, ?_, ((hE.set2 hs0 _ _).cells _ _).cells _ _⟩
        · rw [HT.out, text_step B N HB.out.1 HN.out, if_neg (by rw [← HM.out]; exact HZ.out), HU.out, HM.out, List.append_assoc]
          rfl
        · rw [← HM0.out, ← HM1.out]
          exact ((o.set _ _).alloc _ _).alloc _ _
      case measure =>
        have e := congrArg List.length HT.out
        rw [List.length_append] at e
        have h1 := text_length B P HB.out.1 HP.out
        have h2 := text_length B N HB.out.1 HN.out
        simp only [strLen, bytes_size, List.length_cons]
        omega
end Go.Proofs.YtegcecpmdgljpaaGreatDoor

namespace Go.Proofs.YtegcecpmdgljpaaGreatDoor
open Go.RowKit
set_option linter.unusedVariables false

theorem lin_V (x y z k : Int) : V x (y + z + 18446744073709551616 * k) = V x y + 18446744073709551616 * z + 340282366920938463463374607431768211456 * k := by
  unfold V; omega
theorem lin_all (vt vy X z hb k1 k2 k3 nB kB d r q : Int) (h1 : vt = vy + 18446744073709551616 * z + 340282366920938463463374607431768211456 * k3) (h2 : vy = X + 340282366920938463463374607431768211456 * k1) (h3 : z = hb + 18446744073709551616 * k2) (h4 : X + 18446744073709551616 * hb = nB + 340282366920938463463374607431768211456 * kB) (h5 : r = nB + d - 340282366920938463463374607431768211456 * q) :
    vt + d = r + 340282366920938463463374607431768211456 * (k1 + k2 + k3 + kB + q) := by omega
theorem U_part (l h : Int) : U l + 18446744073709551616 * h = V l h := by unfold V; omega
theorem mod_two128 (n : Nat) : ((n % two128 : Nat) : Int) = (n : Int) - 340282366920938463463374607431768211456 * ((n / two128 : Nat) : Int) := by
  unfold two128; omega
theorem V_digit (d : Nat) (h : d < 36) : V (d : Int) 0 = (d : Int) := by unfold V U; omega
/-- One digit taken in, in cells: the pair's low cell times the base, its high cell times it, and the digit. -/
theorem accept_math (N B d : Nat) (b : Int) (hb : b = B) (h36 : B ≤ 36) (hd : d < 36) :
    ∃ x y z t : Int, lo (U (lo (N : Int)) * U b) = x ∧ hi (U (lo (N : Int)) * U b) = y ∧ wrap64 (hi (N : Int) * b) = z ∧ wrap64 (y + z) = t ∧ I64 x ∧ I64 t
      ∧ lo (V x t + V (d : Int) 0) = lo (((N * B + d) % two128 : Nat) : Int) ∧ hi (V x t + V (d : Int) 0) = hi (((N * B + d) % two128 : Nat) : Int) := by
  have hU := U_few b B hb h36
  refine ⟨_, _, _, _, rfl, rfl, rfl, rfl, lo_i64 _, i64_wrap _, ?_⟩
  rw [V_digit d hd, hU, hb]
  obtain ⟨k1, hk1⟩ := V_mk (U (lo (N : Int)) * (B : Int))
  obtain ⟨k2, hk2⟩ := wrap_is (hi (N : Int) * (B : Int))
  obtain ⟨k3, hk3⟩ := wrap_is (hi (U (lo (N : Int)) * (B : Int)) + wrap64 (hi (N : Int) * (B : Int)))
  obtain ⟨k4, hk4⟩ := V_mk (N : Int)
  have hp := U_part (lo (N : Int)) (hi (N : Int))
  rw [hk4] at hp
  have h4 : U (lo (N : Int)) * (B : Int) + 18446744073709551616 * (hi (N : Int) * (B : Int)) = ((N * B : Nat) : Int) + 340282366920938463463374607431768211456 * (k4 * (B : Int)) := by
    rw [← Int.mul_assoc, ← Int.mul_assoc, ← Int.add_mul, Int.natCast_mul, ← Int.add_mul, hp]
  have h5 := mod_two128 (N * B + d)
  rw [Int.natCast_add] at h5
  have h1 := lin_V (lo (U (lo (N : Int)) * (B : Int))) (hi (U (lo (N : Int)) * (B : Int))) (wrap64 (hi (N : Int) * (B : Int))) k3
  rw [← hk3] at h1
  exact same _ (lin_all _ _ _ _ _ _ _ _ _ _ _ _ _ h1 hk1 hk2 h4 h5)
theorem value_lt (c : UInt8) (B : Nat) (hB : B ≤ 36) : vN c B < 36 := by
  unfold vN
  cases h : valueOf c B with
  | none => simp
  | some d =>
    unfold valueOf at h
    cases hv : vdig c with
    | none => rw [hv] at h; cases h
    | some e =>
      rw [hv] at h
      by_cases he : e < B
      · simp only [he, if_true, Option.some.injEq] at h
        subst h
        simp; omega
      · simp only [he, if_false] at h; cases h
theorem value_none {c : UInt8} {B : Nat} (h : vB c B = false) : valueOf c B = none := by
  unfold vB at h
  cases hv : valueOf c B with
  | none => rfl
  | some d => rw [hv] at h; cases h
theorem value_some {c : UInt8} {B : Nat} (h : vB c B = true) : valueOf c B = some (vN c B) := by
  unfold vB at h
  unfold vN
  cases hv : valueOf c B with
  | none => rw [hv] at h; cases h
  | some d => rfl
theorem drop_at (s : ByteArray) (k : Nat) (h : k < s.size) : s.data.toList.drop k = s[k] :: s.data.toList.drop (k + 1) := by
  rw [List.drop_eq_getElem_cons (by simpa using h)]
  rfl
end Go.Proofs.YtegcecpmdgljpaaGreatDoor

namespace Go.Proofs.YtegcecpmdgljpaaGreatDoor
open Go.RowKit
set_option linter.unusedVariables false

set_option maxRecDepth 100000 in
theorem step_calls (a c b : Int) (ha : I64 a) (hc : I64 c) (P B : Nat) (hP : W a c = P) (hb : b = B) (h2 : 2 ≤ B) (h36 : B ≤ 36) (w : World) :
    Calls Tryz.prog 251 #[.agg #[.int .i64 a, .int .i64 c], .int .i64 b] w fun e w' => e = .returned (.tuple #[.agg #[.int .i64 (lo ((P / B : Nat) : Int)), .int .i64 (hi ((P / B : Nat) : Int))], .int .u8 ((letter (P % B)).toNat : Int)]) ∧ Ext w w' := by
  obtain ⟨l, q1, r, q2, m1, m2, m3, m4, m5, m6, m7, m8, m9, hl⟩ := step_math a c b P B hP hb h2 h36
  have hbI : I64 b := by unfold I64; omega
  have hz : (b == 0) = false := by simp; omega
  have hx := fun W' => udiv_calls W' c 0 b hc (by unfold I64; omega) hbI W' (Ext.refl W')
  rw [m1, m2, m3, hz, okR_near, okR_near, okE_near] at hx
  have c1 := Lib.hid hx
  clear hx
  have hx := fun W' => udiv_calls W' a l b ha hl hbI W' (Ext.refl W')
  rw [m4, m5, m6, hz, okR_near, okR_near, okE_near, m7, m9] at hx
  rw [m8] at c1
  have c2 := Lib.hid hx
  clear hx
  have hr := Lib.hid (isbase_calls b)
  have hR : P % B < 36 := Nat.lt_of_lt_of_le (Nat.mod_lt P (Nat.lt_of_lt_of_le (by decide) h2)) h36
  have hd : decide (2 ≤ b ∧ b ≤ 36) = true := decide_eq_true ⟨by omega, by omega⟩
  rw [hd] at hr
  clear m1 m2 m3 m4 m5 m6 m7 m8 m9 hP ha hc hbI hz hb h2 h36 hd hl
  obtain ⟨x, hx⟩ : ∃ x, x = lo ((P / B : Nat) : Int) := ⟨_, rfl⟩
  obtain ⟨y, hy⟩ : ∃ x, x = hi ((P / B : Nat) : Int) := ⟨_, rfl⟩
  obtain ⟨R, hRR⟩ : ∃ x, x = P % B := ⟨_, rfl⟩
  rw [← hx, ← hRR] at c2
  rw [← hy] at c1
  rw [← hx, ← hy, ← hRR]
  rw [← hRR] at hR
  clear hx hy hRR
  have cC := Lib.hid (char_in R hR)
  clear hR
  go_enter Tryz.func251, Tryz.ntmps251
  go_wp2_with fail
  refine (hr.out _).mono ?_
  rintro e w1 ⟨rfl, rfl⟩
  obtain ⟨o0, o1⟩ := own2 w (.int .i64 a) (.int .i64 c) (.int .i64 0) (.int .i64 0)
  have hX := ((Ext.refl w).cells #[.int .i64 a, .int .i64 c] 44).cells #[.int .i64 0, .int .i64 0] 44
  clear hr
  go_wp2_with fail
  refine (c1.out _).mono ?_
  rintro e w2 ⟨rfl, hx2⟩
  replace o0 := o0.ext hx2
  replace o1 := o1.ext hx2
  replace hX := hX.trans hx2
  clear hx2 c1
  have p0 := o0.c0
  have p1 := o0.c1
  go_wp2_with fail
  refine (c2.out _).mono ?_
  rintro e w3 ⟨rfl, hx3⟩
  replace o1 := o1.ext hx3
  replace hX := hX.trans hx3
  clear hx3 c2 p0 p1 o0
  have g0 := o1.c0
  have g1 := o1.c1
  have f0 := o1.f0
  have f1 := o1.f1
  have lt := o1.lt
  go_wp2_with fail
  refine (cC.out _).mono ?_
  rintro e w4 ⟨rfl, rfl⟩
  go_wp2_with fail
  have o9 := o1.set (.int .i64 x) (.int .i64 y)
  have k0 := o9.c0
  have k1 := o9.c1
  refine bodyPost_ret (v := .tuple #[.agg #[.int .i64 x, .int .i64 y], .int .u8 ((letter R).toNat : Int)]) ?_ rfl ⟨rfl, (hX.set2 (n := w.heap.size + 1) (by omega) _ _)⟩
  simp [results, Tryz.results251, go_sem, k0, k1]
theorem of_digit (d : Nat) (h : d < 36) (W : World) : Calls Tryz.prog 100 #[.int .i64 (d : Int)] W fun e w' => e = .returned (.agg #[.int .i64 (d : Int), .int .i64 0]) ∧ Ext W w' := by
  have hI : I64 (d : Int) := by unfold I64; omega
  have hx := of_calls W (d : Int) hI W (Ext.refl W)
  rw [(of_is _ hI).1, (of_is _ hI).2, if_neg (by omega)] at hx
  exact hx
end Go.Proofs.YtegcecpmdgljpaaGreatDoor

namespace Go.Proofs.YtegcecpmdgljpaaGreatDoor
open Go.RowKit
set_option linter.unusedVariables false

def zeros128 : Array Value := Array.replicate 128 (.int .u8 0)
@[go_sem ↓] theorem zero128 (W : World) : (zeroValue 194).run Tryz.prog W = .ok (.agg zeros128) W := by
  kernel_rfl
/-- Block b of w holds 128 bytes that may be written. -/
structure Dig (w : World) (b : Nat) (L : List UInt8) : Prop where
  len : L.length = 128
  at_ : ∀ j, j < 128 → w.cell? ⟨b, j, none⟩ = some (.int .u8 ((L.getD j 0).toNat : Int))
  free : ∀ j, j < 128 → w.frozen? ⟨b, j, none⟩ = false
  lt : b < w.heap.size
theorem Dig.ext {w w' : World} {b : Nat} {L : List UInt8} (h : Dig w b L) (k : Ext w w') : Dig w' b L :=
  ⟨h.len, fun j hj => ext_keeps k (h.at_ j hj), fun j hj => (k.2 _).trans (h.free j hj), Nat.lt_of_lt_of_le h.lt k.1.size⟩
theorem Dig.set {w : World} {b : Nat} {L : List UInt8} (h : Dig w b L) (m : Nat) (hm : m < 128) (u : UInt8) : Dig (w.setCell ⟨b, m, none⟩ (.int .u8 (u.toNat : Int))) b (L.set m u) := by
  refine ⟨by rw [List.length_set]; exact h.len, ?_, ?_, ?_⟩
  · intro j hj
    by_cases e : j = m
    · subst e
      rw [World.cell?_setCell_same _ _ _ (h := h.at_ j hj)]
      have : (L.set j u).getD j 0 = u := by
        rw [List.getD_eq_getElem?_getD, List.getElem?_set_self (by rw [h.len]; exact hj)]; rfl
      rw [this]
    · have hne : (⟨b, m, none⟩ : Addr) ≠ ⟨b, j, none⟩ := fun x => e (by injection x with _ x _; exact x.symm)
      rw [World.cell?_setCell_other (h := hne), h.at_ j hj]
      have : (L.set m u).getD j 0 = L.getD j 0 := by
        rw [List.getD_eq_getElem?_getD, List.getD_eq_getElem?_getD, List.getElem?_set_ne (fun x => e x.symm)]
      rw [this]
  · intro j hj; rw [World.frozen?_setCell]; exact h.free j hj
  · simpa [World.setCell] using h.lt
theorem Dig.other {w : World} {b b' : Nat} {L : List UInt8} (h : Dig w b L) (hb : b' ≠ b) (u v : Value) : Dig ((w.setCell ⟨b', 0, none⟩ u).setCell ⟨b', 1, none⟩ v) b L := by
  have hne : ∀ i j, (⟨b', i, none⟩ : Addr) ≠ ⟨b, j, none⟩ := fun i j e => hb (by injection e)
  refine ⟨h.len, fun j hj => ?_, fun j hj => ?_, ?_⟩
  · rw [World.cell?_setCell_other (h := hne _ _), World.cell?_setCell_other (h := hne _ _)]; exact h.at_ j hj
  · rw [World.frozen?_setCell, World.frozen?_setCell]; exact h.free j hj
  · simpa [World.setCell] using h.lt
theorem Own.otherAt {w : World} {b b' o : Nat} {x y : Value} (h : Own w b x y) (hb : b' ≠ b) (v : Value) : Own (w.setCell ⟨b', o, none⟩ v) b x y := by
  have hne : ∀ j, (⟨b', o, none⟩ : Addr) ≠ ⟨b, j, none⟩ := fun j e => hb (by injection e)
  refine ⟨?_, ?_, ?_, ?_, ?_⟩
  · rw [World.cell?_setCell_other (h := hne _)]; exact h.c0
  · rw [World.cell?_setCell_other (h := hne _)]; exact h.c1
  · rw [World.frozen?_setCell]; exact h.f0
  · rw [World.frozen?_setCell]; exact h.f1
  · simpa [World.setCell] using h.lt
theorem Dig.last (X : World) : Dig (X.alloc (.cells zeros128 194)) X.heap.size (List.replicate 128 0) := by
  have hb : (X.alloc (.cells zeros128 194)).heap[X.heap.size]? = some (.cells zeros128 194) := (MapKept.heap_alloc X _).1
  refine ⟨by simp, ?_, ?_, by show X.heap.size < (X.heap.push _).size; simp⟩
  · intro j hj
    simp only [World.cell?, hb]
    have e1 : (List.replicate 128 (0 : UInt8)).getD j 0 = 0 := by rw [List.getD_eq_getElem?_getD, List.getElem?_replicate, if_pos hj]; rfl
    rw [e1]
    simp [zeros128, hj]
  · intro j hj
    simp only [World.frozen?, hb]
    simp

theorem slice128b (b m : Nat) (hm : m < 128) (W : World) : (Instr.sliceAt 194 (.pointer (some ⟨b, 0, none⟩)) (some (.int .i64 (m : Int))) none none).run Tryz.prog W = .ok (.slice (some ⟨b, m, none⟩) (128 - m) (128 - m)) W := by
  have hl : Tryz.prog.arrayLen 194 = 128 := by kernel_rfl
  have he : Tryz.prog.elem 194 = 5 := by kernel_rfl
  rw [run_sliceAt_array_l (P := Tryz.prog) W 194 ⟨b, 0, none⟩ (by kernel_rfl) .i64 (m : Int) (by omega) (by rw [hl]; omega), he, Tryz.sizeOf5]
  simp only [Result.andThen, slicedAt, hl, Int.toNat_natCast, Addr.add]
  rw [if_neg (by omega), Nat.zero_add, Nat.mul_one]
  by_cases h0 : m = 0
  · subst h0; rfl
  · rw [if_neg h0]
theorem conv128 {W : World} {b : Nat} {m : Nat} {l : List UInt8} (hm : m + l.length = 128) (h : Dig W b (List.replicate m 0 ++ l)) : (convert 59 9 (.slice (some ⟨b, m, none⟩) (128 - m) (128 - m))).run Tryz.prog W = .ok (.string (bytes l)) W := by
  have hl : 128 - m = l.length := by omega
  rw [hl]
  refine run_convert_bytes_back (P := Tryz.prog) _ 59 9 5 ⟨b, m, none⟩ l.length l Tryz.underlying59 Tryz.underlying5 Tryz.underlying9 ?_
  intro j hj
  have e := h.at_ (m + j) (by omega)
  rw [List.getD_eq_getElem?_getD, List.getElem?_append_right (by simp), List.length_replicate, Nat.add_sub_cancel_left, List.getElem?_eq_getElem hj] at e
  have ha : (⟨b, m, none⟩ : Addr).add j = ⟨b, m + j, none⟩ := by
    by_cases h0 : j = 0
    · subst h0; simp [Addr.add]
    · simp [Addr.add, h0]
  rw [ha, e]
  rfl
set_option maxRecDepth 100000 in
set_option maxHeartbeats 2000000 in
theorem text_calls (a c b : Int) (ha : I64 a) (hc : I64 c) (P B : Nat) (hP : W a c = P) (hb : b = B) (h2 : 2 ≤ B) (h36 : B ≤ 36) (w : World) :
    Calls Tryz.prog 238 #[.agg #[.int .i64 a, .int .i64 c], .int .i64 b] w fun e w' => e = .returned (.string (bytes (text B P))) ∧ Ext w w' := by
  obtain ⟨e1, e2, hPl⟩ := W_at a c ha hc P hP
  have hr := Lib.hid (isbase_calls b)
  have hd : decide (2 ≤ b ∧ b ≤ 36) = true := decide_eq_true ⟨by omega, by omega⟩
  rw [hd] at hr
  have hst := Lib.hid (fun (N : Nat) (hN : N < two128) W' => step_calls (lo (N : Int)) (hi (N : Int)) b (lo_i64 _) (hi_i64 _) N B (W_of N hN) hb h2 h36 W')
  have HE := Lib.hid (And.intro e1 e2)
  have HP := Lib.hid hPl
  have HB := Lib.hid (And.intro h2 h36)
  clear e1 e2 ha hc hP hb hd hPl h2 h36
  go_enter Tryz.func238, Tryz.ntmps238
  go_wp2_with fail
  refine (hr.out _).mono ?_
  rintro e w1 ⟨rfl, rfl⟩
  obtain ⟨o0, hX⟩ : Own ((w.alloc (.cells #[.int .i64 a, .int .i64 c] 44)).alloc (.cells zeros128 194)) w.heap.size (.int .i64 a) (.int .i64 c) ∧ Ext w ((w.alloc (.cells #[.int .i64 a, .int .i64 c] 44)).alloc (.cells zeros128 194)) :=
    ⟨(Own.last (X := w)).alloc _ _, ((Ext.refl w).cells _ _).cells _ _⟩
  have dg := Dig.last (w.alloc (.cells #[.int .i64 a, .int .i64 c] 44))
  rw [size_alloc] at dg
  clear hr
  go_wp2_with fail
  go_loopw [11] (fun i wr => ∃ (N k : Nat) (l : List UInt8), N < two128 ∧ RowKit.Hid (l.length = k) ∧ k ≤ 127 ∧ i = .int .i64 (k : Int) ∧ RowKit.Hid (text B P = text B N ++ l) ∧ Own wr w.heap.size (.int .i64 (lo (N : Int))) (.int .i64 (hi (N : Int))) ∧ Dig wr (w.heap.size + 1) (List.replicate (128 - k) 0 ++ l) ∧ Ext w wr) (fun i _ => 128 - (intOf i).toNat)
  case atStart =>
    refine ⟨P, 0, [], HP.out, Lib.hid rfl, by omega, rfl, Lib.hid (by simp), ?_, ?_, hX⟩
    · rw [← HE.out.1, ← HE.out.2]
      exact o0
    · rw [List.append_nil]
      exact dg
  case round =>
    obtain ⟨N, k, l, hN, hl, hk, rfl, HT, o, dd, hE⟩ := hrel
    clear o0 hX dg
    have HN := Lib.hid hN
    have p0 := o.c0
    have p1 := o.c1
    have hstN := Lib.hid (hst.out N hN)
    obtain ⟨M, hM⟩ : ∃ m, m = N / B := ⟨_, rfl⟩
    obtain ⟨u, hu⟩ : ∃ m, m = letter (N % B) := ⟨_, rfl⟩
    rw [← hM, ← hu] at hstN
    obtain ⟨m0, hm0⟩ : ∃ m, m = lo (M : Int) := ⟨_, rfl⟩
    obtain ⟨m1, hm1⟩ : ∃ m, m = hi (M : Int) := ⟨_, rfl⟩
    rw [← hm0, ← hm1] at hstN
    have HM0 := Lib.hid hm0
    have HM1 := Lib.hid hm1
    clear hm0 hm1
    have HM := Lib.hid hM
    have HU := Lib.hid hu
    clear hM hu
    clear hN
    obtain ⟨m, hm⟩ : ∃ m : Nat, k + m = 127 := ⟨127 - k, by omega⟩
    have hm2 : (127 : Int) - (k : Int) = (m : Int) := by omega
    have hm3 : (m : Int) < 128 := by omega
    have hk2 : (k : Int) < 128 := by omega
    have HK := Lib.hid hm
    clear hm
    obtain ⟨L, hL⟩ : ∃ L, L = List.replicate (128 - k) 0 ++ l := ⟨_, rfl⟩
    rw [← hL] at dd
    have HL := Lib.hid hL
    clear hL
    go_wp2_with fail
    refine (hstN.out _).mono ?_
    rintro e w2 ⟨rfl, hx⟩
    replace o := o.ext hx
    replace dd := dd.ext hx
    replace hE := hE.trans hx
    clear hx hstN p0 p1
    have p0 := o.c0
    have p1 := o.c1
    have f0 := o.f0
    have f1 := o.f1
    have lt := o.lt
    have q0 := dd.at_ m (by omega)
    have r0 := dd.free m (by omega)
    have hMl : M < two128 := by rw [HM.out]; exact Nat.lt_of_le_of_lt (Nat.div_le_self _ _) HN.out
    have hzp := zero_pair M hMl
    have HML := Lib.hid hMl
    clear hMl
    rw [← HM0.out, ← HM1.out] at hzp
    have o' := (o.set (.int .i64 m0) (.int .i64 m1)).otherAt (b' := w.heap.size + 1) (o := m) (by omega) (.int .u8 (u.toNat : Int))
    have dd' := (dd.other (b' := w.heap.size) (by omega) (.int .i64 m0) (.int .i64 m1)).set m (by omega) u
    have hE' := (hE.set2 (Nat.le_refl _) (.int .i64 m0) (.int .i64 m1)).setCell (p := ⟨w.heap.size + 1, m, none⟩) (Nat.le_succ _) (.int .u8 (u.toNat : Int))
    have hL2 : L.set m u = List.replicate (128 - (k + 1)) 0 ++ u :: l := by
      rw [HL.out, show 128 - k = m + 1 by have := HK.out; omega, show 128 - (k + 1) = m by have := HK.out; omega]
      rw [List.replicate_succ', List.append_assoc, List.set_append_right _ _ (by simp)]
      simp
    rw [hL2] at dd'
    clear hL2
    by_cases hz : M = 0
    · rw [decide_eq_true hz] at hzp
      have HZ := Lib.hid hz
      clear hz
      have hfin : RowKit.Hid (text B P = u :: l) := Lib.hid (by
        rw [HT.out, text_step B N HB.out.1 HN.out, if_pos (by rw [← HM.out]; exact HZ.out), HU.out]
        rfl)
      have hsl := slice128b (w.heap.size + 1) m (by omega)
      have hcv := conv128 (m := 128 - (k + 1)) (l := u :: l) (by rw [List.length_cons, hl.out]; omega) dd'
      rw [show 128 - (k + 1) = m by have := HK.out; omega] at hcv
      go_wp2_with fail
      go_ret
      exact ⟨by rw [hfin.out]; rfl, hE'⟩
    · rw [decide_eq_false hz] at hzp
      have HZ := Lib.hid hz
      clear hz
      go_wp2_with fail
      go_roundw
      case rel =>
        refine ⟨M, k + 1, u :: l, HML.out, Lib.hid ?_, ?_, by go_num, Lib.hid ?_, ?_, dd', hE'⟩
        · rw [List.length_cons, hl.out]
        · have e := congrArg List.length HT.out
          rw [List.length_append, text_step B N HB.out.1 HN.out, if_neg (by rw [← HM.out]; exact HZ.out), List.length_append, List.length_singleton, hl.out] at e
          have h1 := text_length B P HB.out.1 HP.out
          have h2 := text_length B (N / B) HB.out.1 (by rw [← HM.out]; exact HML.out)
          omega
        · rw [HT.out, text_step B N HB.out.1 HN.out, if_neg (by rw [← HM.out]; exact HZ.out), HU.out, HM.out, List.append_assoc]
          rfl
        · rw [← HM0.out, ← HM1.out]
          exact o'
      case measure => simp [intOf]; omega
end Go.Proofs.YtegcecpmdgljpaaGreatDoor

namespace Go.Proofs.YtegcecpmdgljpaaGreatDoor
open Go.RowKit
set_option linter.unusedVariables false

theorem neg_nat (a c : Int) (ha : I64 a) (hc : I64 c) (hn : c < 0) : ∃ M : Nat, -V a c = (M : Int) ∧ M < two128 := by
  have h1 := V_neg a c ha hc
  have h2 := V_bd (l := a) hc
  obtain ⟨M, hM⟩ := Int.eq_ofNat_of_zero_le (show 0 ≤ -V a c by omega)
  exact ⟨M, hM, by unfold two128; omega⟩
/-- The text of a number with its sign. -/
def signed (B : Nat) (P : Nat) (v : Int) : List UInt8 := if v < 0 then 45 :: text B (-v).toNat else text B P
theorem rsigned_calls (w0 : World) (a c b : Int) (ha : I64 a) (hc : I64 c) (P B : Nat) (hP : W a c = P) (hb : b = B) (h2 : 2 ≤ B) (h36 : B ≤ 36) (w : World) (h : Ext w0 w) :
    Calls Tryz.prog 24 #[.agg #[.int .i64 a, .int .i64 c], .int .i64 b] w fun e w' => e = .returned (.string (bytes (signed B P (V a c)))) ∧ Ext w0 w' := by
  have hsg := V_neg a c ha hc
  by_cases hn : c < 0
  · obtain ⟨M, hM, hMl⟩ := neg_nat a c ha hc hn
    have hr := Lib.hid (rright_calls b)
    have hd : decide (2 ≤ b ∧ b ≤ 36) = true := decide_eq_true ⟨by omega, by omega⟩
    rw [hd] at hr
    have e : signed B P (V a c) = 45 :: text B M := by
      unfold signed
      rw [if_pos (hsg.2 hn), hM, Int.toNat_natCast]
    rw [e]
    have hx := fun W' => rneg_calls W' a c ha hc W' (Ext.refl W')
    rw [hM] at hx
    have cN := Lib.hid hx
    clear hx
    have cT := Lib.hid (fun W' => rtext_calls W' (lo (M : Int)) (hi (M : Int)) b (lo_i64 _) (hi_i64 _) M B (W_of M hMl) hb h2 h36 W' (Ext.refl W'))
    have had := add_byte 45 (text B M) (by have := text_length B M h2 hMl; omega)
    rw [show bytes [45] = (⟨#[45]⟩ : ByteArray) from rfl] at had
    clear e hd hsg hM hMl ha hc hP hb h2 h36
    generalize lo (M : Int) = m0 at *
    generalize hi (M : Int) = m1 at *
    generalize text B M = t at *
    go_enter Tryz.func24, Tryz.ntmps24
    go_wp2_with fail
    refine (hr.out _).mono ?_
    rintro e w1 ⟨rfl, rfl⟩
    have hX := h.cells #[.int .i64 a, .int .i64 c] 44
    go_wp2_with fail
    refine (cN.out _).mono ?_
    rintro e w2 ⟨rfl, hx⟩
    replace hX := hX.trans hx
    clear hx
    go_wp2_with fail
    refine (cT.out _).mono ?_
    rintro e w3 ⟨rfl, hx⟩
    replace hX := hX.trans hx
    clear hx
    go_wp2_with fail
    go_ret
    exact ⟨rfl, hX⟩
  · have e : signed B P (V a c) = text B P := by
      unfold signed
      rw [if_neg (fun h => hn (hsg.1 h))]
    rw [e]
    have cT := Lib.hid (fun W' => rtext_calls W' a c b ha hc P B hP hb h2 h36 W' (Ext.refl W'))
    have hn' : 0 ≤ c := by omega
    have dn : decide (c < 0) = false := by simpa using hn
    clear e hsg ha hc hP hb h2 h36
    generalize text B P = t at *
    go_enter Tryz.func24, Tryz.ntmps24
    go_wp2_with fail
    have hX := h.cells #[.int .i64 a, .int .i64 c] 44
    refine (cT.out _).mono ?_
    rintro e w3 ⟨rfl, hx⟩
    replace hX := hX.trans hx
    clear hx
    go_wp2_with fail
    go_ret
    exact ⟨rfl, hX⟩
end Go.Proofs.YtegcecpmdgljpaaGreatDoor

namespace Go.Proofs.YtegcecpmdgljpaaGreatDoor
open Go.RowKit
set_option linter.unusedVariables false

/-- The base that a text is read in, and how many letters tell it. -/
def pre (B : Nat) (l : List UInt8) : Nat × Nat := if l.head? = some 35 then (10, 1) else if l.head? = some 36 then (16, 1) else if l.head? = some 37 then (2, 1) else (B, 0)
theorem pre_bd (B : Nat) (l : List UInt8) (h2 : 2 ≤ B) (h36 : B ≤ 36) : 2 ≤ (pre B l).1 ∧ (pre B l).1 ≤ 36 ∧ (pre B l).2 ≤ 1 := by
  unfold pre
  split
  · exact ⟨by decide, by decide, by decide⟩
  · split
    · exact ⟨by decide, by decide, by decide⟩
    · split
      · exact ⟨by decide, by decide, by decide⟩
      · exact ⟨h2, h36, Nat.zero_le _⟩
theorem head_at (s : ByteArray) (h : 0 < s.size) : s.data.toList.head? = some s[0] := by
  have e := drop_at s 0 h
  rw [List.drop_zero] at e
  rw [e]
  rfl
theorem Own.set1 {w : World} {b : Nat} {x y : Value} (h : Own w b x y) (v : Value) : Own (w.setCell ⟨b, 1, none⟩ v) b x v := by
  have hne : (⟨b, 1, none⟩ : Addr) ≠ ⟨b, 0, none⟩ := by simp
  refine ⟨?_, World.cell?_setCell_same _ _ _ (h := h.c1), ?_, ?_, ?_⟩
  · rw [World.cell?_setCell_other (h := hne)]; exact h.c0
  · rw [World.frozen?_setCell]; exact h.f0
  · rw [World.frozen?_setCell]; exact h.f1
  · simpa [World.setCell] using h.lt
theorem Own.other1 {w : World} {b b' o : Nat} {x y : Value} (h : Own w b x y) (hb : b' ≠ b) (v : Value) : Own (w.setCell ⟨b', o, none⟩ v) b x y := by
  have hne : ∀ j, (⟨b', o, none⟩ : Addr) ≠ ⟨b, j, none⟩ := fun j e => hb (by injection e)
  refine ⟨?_, ?_, ?_, ?_, ?_⟩
  · rw [World.cell?_setCell_other (h := hne _)]; exact h.c0
  · rw [World.cell?_setCell_other (h := hne _)]; exact h.c1
  · rw [World.frozen?_setCell]; exact h.f0
  · rw [World.frozen?_setCell]; exact h.f1
  · simpa [World.setCell] using h.lt
/-- Is the letter at a place a minus? -/
def minus (l : List UInt8) (k : Nat) : Bool := l[k]? == some 45
theorem at_list (s : ByteArray) (k : Nat) (h : k < s.size) : s.data.toList[k]? = some s[k] := by
  have e := drop_at s k h
  have := congrArg List.head? e
  rw [List.head?_drop] at this
  exact this
/-- Is the last letter a point? -/
def point (l : List UInt8) : Bool := l.getLast? == some 46
/-- The number that a text is: its two cells, and its kind; a text that is none is 0, 0, of kind 0. -/
def numPart (l : List UInt8) (m : Bool) (j : Nat) (q : Nat × Nat) (d : Bool) : Int × Int × Int :=
  if (decide (0 < (if d then 0 else q.2)) || decide (l.length ≤ j + d.toNat)) = true then (0, 0, 0)
  else if d then (lo (if m then -(q.1 : Int) else (q.1 : Int)), hi (if m then -(q.1 : Int) else (q.1 : Int)), 2) else (lo (if m then -(q.1 : Int) else (q.1 : Int)), 0, 1)
def numOf (B : Nat) (l : List UInt8) : Int × Int × Int :=
  numPart l (minus l (pre B l).2) ((pre B l).2 + (minus l (pre B l).2).toNat) (acc (pre B l).1 0 (l.drop ((pre B l).2 + (minus l (pre B l).2).toNat))) ((acc (pre B l).1 0 (l.drop ((pre B l).2 + (minus l (pre B l).2).toNat))).2 == 1 && point l)
theorem point_is (s : ByteArray) (h : 0 < s.size) : point s.data.toList = ((s[s.size - 1].toNat : Int) == 46) := by
  unfold point
  have hl : s.data.toList.length = s.size := rfl
  rw [List.getLast?_eq_getElem?, hl, at_list s (s.size - 1) (by omega), Bool.eq_iff_iff, beq_iff_eq, beq_iff_eq, Option.some.injEq, ← UInt8.toNat_inj]
  have : (46 : UInt8).toNat = 46 := rfl
  omega
theorem extract_list (s : ByteArray) (j : Nat) : (s.extract j s.size).data.toList = s.data.toList.drop j := by
  rw [Lib.extract_data]
  simp [List.take_of_length_le]
theorem pre_is (B : Nat) (s : ByteArray) (h : 0 < s.size) : pre B s.data.toList = if (s[0].toNat : Int) = 35 then (10, 1) else if (s[0].toNat : Int) = 36 then (16, 1) else if (s[0].toNat : Int) = 37 then (2, 1) else (B, 0) := by
  unfold pre
  rw [head_at s h]
  have key : ∀ n : Nat, n < 256 → (some s[0] = some n.toUInt8 ↔ (s[0].toNat : Int) = n) := by
    intro n hn
    rw [Option.some.injEq, ← UInt8.toNat_inj, Nat.toUInt8_eq, UInt8.toNat_ofNat', Nat.mod_eq_of_lt hn]
    omega
  have k35 := key 35 (by decide)
  have k36 := key 36 (by decide)
  have k37 := key 37 (by decide)
  simp only [show (35 : Nat).toUInt8 = (35 : UInt8) from rfl, show (36 : Nat).toUInt8 = (36 : UInt8) from rfl, show (37 : Nat).toUInt8 = (37 : UInt8) from rfl] at k35 k36 k37
  simp only [k35, k36, k37]
  rfl
theorem minus_is (s : ByteArray) (k : Nat) : minus s.data.toList k = if h : k < s.size then ((s[k].toNat : Int) == 45) else false := by
  unfold minus
  by_cases h : k < s.size
  · rw [at_list s k h, dif_pos h, Bool.eq_iff_iff, beq_iff_eq, beq_iff_eq, Option.some.injEq, ← UInt8.toNat_inj]
    have : (45 : UInt8).toNat = 45 := rfl
    omega
  · rw [dif_neg h, List.getElem?_eq_none (by show s.size ≤ k; omega)]
    rfl
end Go.Proofs.YtegcecpmdgljpaaGreatDoor

namespace Go.Proofs.YtegcecpmdgljpaaGreatDoor
open Go.RowKit
set_option linter.unusedVariables false

theorem signed_calls (a c b : Int) (ha : I64 a) (hc : I64 c) (P B : Nat) (hP : W a c = P) (hb : b = B) (h2 : 2 ≤ B) (h36 : B ≤ 36) (w : World) :
    Calls Tryz.prog 209 #[.agg #[.int .i64 a, .int .i64 c], .int .i64 b] w fun e w' => e = .returned (.string (bytes (signed B P (V a c)))) ∧ Ext w w' := by
  have hsg := V_neg a c ha hc
  by_cases hn : c < 0
  · obtain ⟨M, hM, hMl⟩ := neg_nat a c ha hc hn
    have hr := Lib.hid (isbase_calls b)
    have hd : decide (2 ≤ b ∧ b ≤ 36) = true := decide_eq_true ⟨by omega, by omega⟩
    rw [hd] at hr
    have e : signed B P (V a c) = 45 :: text B M := by
      unfold signed
      rw [if_pos (hsg.2 hn), hM, Int.toNat_natCast]
    rw [e]
    have hx := fun W' => neg_calls W' a c ha hc W' (Ext.refl W')
    rw [hM] at hx
    have cN := Lib.hid hx
    clear hx
    have cT := Lib.hid (fun W' => text_calls (lo (M : Int)) (hi (M : Int)) b (lo_i64 _) (hi_i64 _) M B (W_of M hMl) hb h2 h36 W')
    have had := add_byte 45 (text B M) (by have := text_length B M h2 hMl; omega)
    rw [show bytes [45] = (⟨#[45]⟩ : ByteArray) from rfl] at had
    clear e hd hsg hM hMl ha hc hP hb h2 h36
    generalize lo (M : Int) = m0 at *
    generalize hi (M : Int) = m1 at *
    generalize text B M = t at *
    go_enter Tryz.func209, Tryz.ntmps209
    go_wp2_with fail
    refine (hr.out _).mono ?_
    rintro e w1 ⟨rfl, rfl⟩
    have hX := (Ext.refl w).cells #[.int .i64 a, .int .i64 c] 44
    go_wp2_with fail
    refine (cN.out _).mono ?_
    rintro e w2 ⟨rfl, hx⟩
    replace hX := hX.trans hx
    clear hx
    go_wp2_with fail
    refine (cT.out _).mono ?_
    rintro e w3 ⟨rfl, hx⟩
    replace hX := hX.trans hx
    clear hx
    go_wp2_with fail
    go_ret
    exact ⟨rfl, hX⟩
  · have e : signed B P (V a c) = text B P := by
      unfold signed
      rw [if_neg (fun h => hn (hsg.1 h))]
    rw [e]
    have cT := Lib.hid (fun W' => text_calls a c b ha hc P B hP hb h2 h36 W')
    have hn' : 0 ≤ c := by omega
    have dn : decide (c < 0) = false := by simpa using hn
    clear e hsg ha hc hP hb h2 h36
    generalize text B P = t at *
    go_enter Tryz.func209, Tryz.ntmps209
    go_wp2_with fail
    have hX := (Ext.refl w).cells #[.int .i64 a, .int .i64 c] 44
    refine (cT.out _).mono ?_
    rintro e w3 ⟨rfl, hx⟩
    replace hX := hX.trans hx
    clear hx
    go_wp2_with fail
    go_ret
    exact ⟨rfl, hX⟩
/-- A text without its first letters. -/
def sub (s : ByteArray) (k : Nat) : ByteArray := if k = 0 then s else s.extract k s.size
theorem sub_list (s : ByteArray) (k : Nat) : (sub s k).data.toList = s.data.toList.drop k := by
  unfold sub
  split
  · next h => subst h; rfl
  · exact extract_list s k
theorem some_byte (s : ByteArray) (h : 0 < s.size) : s.toList.isEmpty = false := by
  rw [Lib.toList_data]
  cases hl : s.data.toList with
  | nil =>
    have := congrArg List.length hl
    have h2 : s.data.toList.length = s.size := rfl
    rw [h2, List.length_nil] at this
    exact absurd h (by rw [this]; exact Nat.lt_irrefl _)
  | cons _ _ => rfl
theorem no_byte (s : ByteArray) (h : ¬ 0 < s.size) : s = ⟨#[]⟩ := by
  have h2 : s.data = #[] := Array.eq_empty_of_size_eq_zero (Nat.eq_zero_of_not_pos h)
  cases s
  simp only at h2
  rw [h2]
theorem pre_nil (B : Nat) : pre B [] = (B, 0) := by simp [pre]
end Go.Proofs.YtegcecpmdgljpaaGreatDoor
