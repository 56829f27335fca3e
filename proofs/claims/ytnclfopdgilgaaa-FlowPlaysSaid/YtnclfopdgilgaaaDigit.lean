/- Plain arithmetic on numbers as text: letters, what is taken in, texts and their order. No Go text is spoken of. -/
import Derived.Test.YtnclfopdgilgaaaNum
namespace Go.Proofs.Ytnclfopdgilgaaa
set_option linter.unusedVariables false

/-- The letter of a digit. -/
def letter (n : Nat) : UInt8 := if n < 10 then (48 + n).toUInt8 else (55 + n).toUInt8
/-- The digit whose letter it is, great or small. -/
def vdig (c : UInt8) : Option Nat :=
  if 48 ≤ c.toNat ∧ c.toNat ≤ 57 then some (c.toNat - 48) else if 65 ≤ c.toNat ∧ c.toNat ≤ 90 then some (c.toNat - 55) else if 97 ≤ c.toNat ∧ c.toNat ≤ 122 then some (c.toNat - 87) else none
def valueOf (c : UInt8) (b : Nat) : Option Nat := match vdig c with
  | some d => if d < b then some d else none
  | none => none
theorem letter_val : ∀ n : Fin 36, vdig (letter n.val) = some n.val := by decide +kernel
theorem letter_mono : ∀ n m : Fin 36, n < m → (letter n.val) < (letter m.val) := by decide +kernel
theorem letter_zero : ∀ n : Fin 36, letter n.val = 48 → n.val = 0 := by decide +kernel
theorem value_letter {n b : Nat} (h : n < b) (hb : b ≤ 36) : valueOf (letter n) b = some n := by
  have := letter_val ⟨n, by omega⟩
  unfold valueOf
  simp only at this
  rw [this]
  simp [h]
def two128 : Nat := 340282366920938463463374607431768211456
/-- What is taken in of a text: the number, and how many letters are left. -/
def acc (b : Nat) : Nat → List UInt8 → Nat × Nat
  | p, [] => (p, 0)
  | p, c :: l => match valueOf c b with
    | none => (p, l.length + 1)
    | some d => acc b ((p * b + d) % two128) l
theorem acc_none {b p : Nat} {c : UInt8} {l : List UInt8} (h : valueOf c b = none) : acc b p (c :: l) = (p, l.length + 1) := by simp [acc, h]
theorem acc_some {b p d : Nat} {c : UInt8} {l : List UInt8} (h : valueOf c b = some d) : acc b p (c :: l) = acc b ((p * b + d) % two128) l := by simp [acc, h]
/-- Piece by piece. -/
theorem acc_append (b : Nat) : ∀ (l m : List UInt8) (p : Nat), acc b p (l ++ m) = if (acc b p l).2 = 0 then acc b (acc b p l).1 m else ((acc b p l).1, (acc b p l).2 + m.length) := by
  intro l
  induction l with
  | nil => intro m p; simp [acc]
  | cons c l ih =>
    intro m p
    cases h : valueOf c b with
    | none => rw [List.cons_append, acc_none h, acc_none h]; simp; omega
    | some d => rw [List.cons_append, acc_some h, acc_some h]; exact ih m _
theorem acc_left (b : Nat) : ∀ (l : List UInt8) (p : Nat), (acc b p l).2 ≤ l.length := by
  intro l
  induction l with
  | nil => intro p; simp [acc]
  | cons c l ih =>
    intro p
    cases h : valueOf c b with
    | none => rw [acc_none h]; simp
    | some d => rw [acc_some h]; have := ih ((p * b + d) % two128); simp; omega
/-- Where letters are left, the first of them is no digit. -/
theorem acc_stop (b : Nat) : ∀ (l : List UInt8) (p : Nat), (acc b p l).2 ≠ 0 → ∃ c, l[l.length - (acc b p l).2]? = some c ∧ valueOf c b = none := by
  intro l
  induction l with
  | nil => intro p h; exact absurd rfl h
  | cons c l ih =>
    intro p h
    cases hv : valueOf c b with
    | none => rw [acc_none hv]; exact ⟨c, by simp, hv⟩
    | some d =>
      rw [acc_some hv] at h ⊢
      obtain ⟨x, h1, h2⟩ := ih _ h
      refine ⟨x, ?_, h2⟩
      have hl := acc_left b l ((p * b + d) % two128)
      rw [show (c :: l).length - (acc b ((p * b + d) % two128) l).2 = (l.length - (acc b ((p * b + d) % two128) l).2) + 1 by simp; omega]
      simpa using h1
theorem acc_whole (b : Nat) : ∀ (l : List UInt8) (p : Nat), (acc b p l).2 = 0 ↔ ∀ c ∈ l, valueOf c b ≠ none := by
  intro l
  induction l with
  | nil => intro p; simp [acc]
  | cons c l ih =>
    intro p
    cases h : valueOf c b with
    | none => rw [acc_none h]; simp [h]
    | some d => rw [acc_some h, ih]; simp [h]

/-- The text of a number, with some fuel. -/
def txt (b : Nat) : Nat → Nat → List UInt8
  | 0, n => [letter (n % b)]
  | f + 1, n => if n / b = 0 then [letter (n % b)] else txt b f (n / b) ++ [letter (n % b)]
def text (b n : Nat) : List UInt8 := txt b 127 n
theorem txt_fuel (b : Nat) (hb : 2 ≤ b) : ∀ (f n : Nat), n < 2 ^ (f + 1) → ∀ g, f ≤ g → txt b g n = txt b f n := by
  intro f
  induction f with
  | zero =>
    intro n hn g hg
    have h0 : n / b = 0 := Nat.div_eq_of_lt (by omega)
    cases g with
    | zero => rfl
    | succ g => simp [txt, h0]
  | succ f ih =>
    intro n hn g hg
    obtain ⟨g, rfl⟩ : ∃ k, g = k + 1 := ⟨g - 1, by omega⟩
    have hlt : n / b < 2 ^ (f + 1) := by
      rw [Nat.div_lt_iff_lt_mul (by omega)]
      have : 2 ^ (f + 1) * 2 ≤ 2 ^ (f + 1) * b := Nat.mul_le_mul_left _ hb
      rw [Nat.pow_succ] at hn
      omega
    simp only [txt]
    rw [ih _ hlt g (by omega)]
theorem txt_succ (b f n : Nat) : txt b (f + 1) n = if n / b = 0 then [letter (n % b)] else txt b f (n / b) ++ [letter (n % b)] := rfl
theorem text_step (b n : Nat) (hb : 2 ≤ b) (hn : n < two128) : text b n = if n / b = 0 then [letter (n % b)] else text b (n / b) ++ [letter (n % b)] := by
  have hlt : n / b < 2 ^ 127 := by
    rw [Nat.div_lt_iff_lt_mul (by omega)]
    have : 2 ^ 127 * 2 ≤ 2 ^ 127 * b := Nat.mul_le_mul_left _ hb
    have h2 : 2 ^ 127 * 2 = two128 := by decide
    omega
  have e : text b (n / b) = txt b 126 (n / b) := txt_fuel b hb 126 (n / b) hlt 127 (by omega)
  rw [e]
  exact txt_succ b 126 n
theorem text_ne (b n : Nat) : text b n ≠ [] := by
  unfold text
  rw [show (127 : Nat) = 126 + 1 from rfl, txt_succ]
  split <;> simp
/-- By the quotient: for what holds of a text. -/
theorem text_ind (b : Nat) (hb : 2 ≤ b) (C : Nat → List UInt8 → Prop) (one : ∀ n, n < b → n < two128 → C n [letter n]) (more : ∀ n l, n < two128 → n / b ≠ 0 → C (n / b) l → C n (l ++ [letter (n % b)])) : ∀ n, n < two128 → C n (text b n) := by
  intro n
  induction n using Nat.strongRecOn with
  | ind n ih =>
    intro hn
    rw [text_step b n hb hn]
    by_cases h0 : n / b = 0
    · rw [if_pos h0]
      have hlt : n < b := (Nat.div_eq_zero_iff_lt (by omega)).1 h0
      rw [Nat.mod_eq_of_lt hlt]
      exact one n hlt hn
    · rw [if_neg h0]
      have hlt : n / b < n := Nat.div_lt_self (by rcases Nat.eq_zero_or_pos n with h | h; subst h; simp at h0; exact h) (by omega)
      exact more n _ hn h0 (ih _ hlt (by omega))
theorem acc_text (b n : Nat) (hb : 2 ≤ b) (hb2 : b ≤ 36) (hn : n < two128) : acc b 0 (text b n) = (n, 0) := by
  refine text_ind b hb (fun n l => acc b 0 l = (n, 0)) ?_ ?_ n hn
  · intro n h1 h2
    rw [acc_some (value_letter h1 hb2)]
    simp [acc, Nat.mod_eq_of_lt h2]
  · intro n l h1 h2 h3
    have hd := Nat.div_add_mod n b
    rw [Nat.mul_comm] at hd
    rw [acc_append, h3, if_pos rfl, acc_some (value_letter (Nat.mod_lt _ (by omega)) hb2), hd]
    simp [acc, Nat.mod_eq_of_lt h1]
theorem text_bounds (b n : Nat) (hb : 2 ≤ b) (hn : n < two128) : n < b ^ (text b n).length ∧ (n ≠ 0 → b ^ ((text b n).length - 1) ≤ n) ∧ (text b n ≠ [] ∧ (n = 0 → (text b n).length = 1)) := by
  refine text_ind b hb (fun n l => n < b ^ l.length ∧ (n ≠ 0 → b ^ (l.length - 1) ≤ n) ∧ (l ≠ [] ∧ (n = 0 → l.length = 1))) ?_ ?_ n hn
  · intro n h1 h2
    refine ⟨by simpa using h1, ?_, by simp, by simp⟩
    intro h; simp; omega
  · intro n l h1 h2 ⟨h3, h4, h5, h6⟩
    have h7 := h4 h2
    have hl : 1 ≤ l.length := by cases l with
      | nil => exact absurd rfl h5
      | cons _ _ => simp
    have hd := Nat.div_add_mod n b
    have hm := Nat.mod_lt n (show 0 < b by omega)
    refine ⟨?_, ?_, by simp, ?_⟩
    · rw [List.length_append, List.length_singleton, Nat.pow_succ]
      have : (n / b + 1) * b ≤ b ^ l.length * b := Nat.mul_le_mul_right _ h3
      rw [Nat.add_mul, Nat.one_mul, Nat.mul_comm] at this
      omega
    · intro _
      rw [List.length_append, List.length_singleton, Nat.add_sub_cancel]
      have : b ^ (l.length - 1) * b ≤ n / b * b := Nat.mul_le_mul_right _ h7
      rw [← Nat.pow_succ, show (l.length - 1).succ = l.length by omega] at this
      exact Nat.le_trans this (Nat.div_mul_le_self _ _)
    · intro h0; subst h0; simp at h2
theorem text_length (b n : Nat) (hb : 2 ≤ b) (hn : n < two128) : 1 ≤ (text b n).length ∧ (text b n).length ≤ 128 := by
  obtain ⟨h1, h2, h3, h4⟩ := text_bounds b n hb hn
  refine ⟨by cases h : text b n with
    | nil => exact absurd h h3
    | cons _ _ => simp, ?_⟩
  by_cases h0 : n = 0
  · rw [h4 h0]; omega
  · have h5 := h2 h0
    refine Nat.le_of_not_lt fun hlt => ?_
    have h6 : 2 ^ 128 ≤ 2 ^ ((text b n).length - 1) := Nat.pow_le_pow_right (by omega) (by omega)
    have h7 : 2 ^ ((text b n).length - 1) ≤ b ^ ((text b n).length - 1) := Nat.pow_le_pow_left hb _
    have h8 : (2 : Nat) ^ 128 = two128 := by decide
    omega
/-- The first letter is no 0, but of a text of one letter. -/
theorem text_head (b n : Nat) (hb : 2 ≤ b) (hb2 : b ≤ 36) (hn : n < two128) : (text b n).length = 1 ∨ (text b n).head? ≠ some 48 := by
  have h := text_ind b hb (fun n l => l ≠ [] ∧ (n ≠ 0 → l.head? ≠ some 48) ∧ (n = 0 → l.length = 1)) ?_ ?_ n hn
  · by_cases h0 : n = 0
    · exact .inl (h.2.2 h0)
    · exact .inr (h.2.1 h0)
  · intro n h1 h2
    refine ⟨by simp, ?_, by simp⟩
    intro h
    simp only [List.head?_cons, ne_eq, Option.some.injEq]
    exact fun hc => h (letter_zero ⟨n, by omega⟩ hc)
  · intro n l h1 h2 ⟨h3, h4, h5⟩
    refine ⟨by simp, ?_, ?_⟩
    · intro _
      cases l with
      | nil => exact absurd rfl h3
      | cons a l => exact h4 h2
    · intro h0; subst h0; simp at h2
theorem lt_snoc : ∀ (l m : List UInt8) (x y : UInt8), l.length = m.length → (l ++ [x] < m ++ [y] ↔ l < m ∨ (l = m ∧ x < y)) := by
  intro l
  induction l with
  | nil =>
    intro m x y h
    cases m with
    | nil => simp [List.cons_lt_cons_iff]
    | cons _ _ => simp at h
  | cons a l ih =>
    intro m x y h
    cases m with
    | nil => simp at h
    | cons c m =>
      simp only [List.cons_append, List.cons_lt_cons_iff, ih m x y (by simpa using h), List.cons.injEq]
      constructor
      · rintro (h1 | ⟨h1, h2 | ⟨h2, h3⟩⟩)
        · exact .inl (.inl h1)
        · exact .inl (.inr ⟨h1, h2⟩)
        · exact .inr ⟨⟨h1, h2⟩, h3⟩
      · rintro ((h1 | ⟨h1, h2⟩) | ⟨⟨h1, h2⟩, h3⟩)
        · exact .inl h1
        · exact .inr ⟨h1, .inl h2⟩
        · exact .inr ⟨h1, .inr ⟨h2, h3⟩⟩
theorem text_inj (b n m : Nat) (hb : 2 ≤ b) (hb2 : b ≤ 36) (hn : n < two128) (hm : m < two128) (h : text b n = text b m) : n = m := by
  have h1 := acc_text b n hb hb2 hn
  have h2 := acc_text b m hb hb2 hm
  rw [h, h2] at h1
  injection h1 with h1 _
  exact h1.symm
theorem letter_lt {x y : Nat} (hx : x < 36) (hy : y < 36) : letter x < letter y ↔ x < y := by
  constructor
  · intro h
    refine Nat.lt_of_not_le fun hle => ?_
    rcases Nat.lt_or_eq_of_le hle with h1 | h1
    · exact absurd h (UInt8.lt_asymm (letter_mono ⟨y, hy⟩ ⟨x, hx⟩ h1))
    · subst h1; exact UInt8.lt_irrefl _ h
  · intro h; exact letter_mono ⟨x, hx⟩ ⟨y, hy⟩ h
theorem lt_parts (b n m : Nat) (hb : 0 < b) : n < m ↔ n / b < m / b ∨ (n / b = m / b ∧ n % b < m % b) := by
  have h1 := Nat.div_add_mod n b
  have h2 := Nat.div_add_mod m b
  have h3 := Nat.mod_lt n hb
  have h4 := Nat.mod_lt m hb
  have key : ∀ q q' : Nat, q < q' → b * q + b ≤ b * q' := fun q q' h => by
    have : b * (q + 1) ≤ b * q' := Nat.mul_le_mul_left _ h
    rwa [Nat.mul_add, Nat.mul_one] at this
  rcases Nat.lt_trichotomy (n / b) (m / b) with h | h | h
  · have := key _ _ h
    omega
  · rw [h] at h1
    omega
  · have := key _ _ h
    omega
/-- A longer text, or one that is greater letter by letter, is of the greater number. -/
theorem text_lt (b : Nat) (hb : 2 ≤ b) (hb2 : b ≤ 36) : ∀ n m : Nat, n < two128 → m < two128 → (((text b n).length < (text b m).length ∨ ((text b n).length = (text b m).length ∧ text b n < text b m)) ↔ n < m) := by
  intro n
  induction n using Nat.strongRecOn with
  | ind n ih =>
    intro m hn hm
    have hln := text_length b (n / b) hb (Nat.lt_of_le_of_lt (Nat.div_le_self _ _) hn)
    have hlm := text_length b (m / b) hb (Nat.lt_of_le_of_lt (Nat.div_le_self _ _) hm)
    have hp := lt_parts b n m (by omega)
    have hx := Nat.mod_lt n (show 0 < b by omega)
    have hy := Nat.mod_lt m (show 0 < b by omega)
    rw [text_step b n hb hn, text_step b m hb hm]
    by_cases h0 : n / b = 0
    · by_cases h1 : m / b = 0
      · rw [if_pos h0, if_pos h1, hp, h0, h1]
        simp only [List.length_singleton, Nat.lt_irrefl, true_and, false_or, List.cons_lt_cons_iff, List.not_lt_nil, and_false, or_false]
        exact letter_lt (by omega) (by omega)
      · have hq := Nat.pos_of_ne_zero h1
        rw [if_pos h0, if_neg h1, hp, h0]
        simp only [List.length_append, List.length_singleton]
        omega
    · by_cases h1 : m / b = 0
      · have hq := Nat.pos_of_ne_zero h0
        rw [if_neg h0, if_pos h1, hp, h1]
        simp only [List.length_append, List.length_singleton]
        omega
      · rw [if_neg h0, if_neg h1]
        have hlt : n / b < n := Nat.div_lt_self (by rcases Nat.eq_zero_or_pos n with h | h; subst h; simp at h0; exact h) (by omega)
        have hI := ih (n / b) hlt (m / b) (by omega) (Nat.lt_of_le_of_lt (Nat.div_le_self _ _) hm)
        have hinj := text_inj b (n / b) (m / b) hb hb2 (by omega) (Nat.lt_of_le_of_lt (Nat.div_le_self _ _) hm)
        simp only [List.length_append, List.length_singleton]
        rw [hp, ← hI]
        by_cases hlen : (text b (n / b)).length = (text b (m / b)).length
        · have hs := lt_snoc _ _ (letter (n % b)) (letter (m % b)) hlen
          rw [hs, letter_lt (by omega) (by omega), hlen]
          constructor
          · rintro (h | ⟨_, h | ⟨h2, h3⟩⟩)
            · omega
            · exact .inl (.inr ⟨rfl, h⟩)
            · exact .inr ⟨hinj h2, h3⟩
          · rintro ((h | ⟨_, h⟩) | ⟨h2, h3⟩)
            · omega
            · exact .inr ⟨rfl, .inl h⟩
            · exact .inr ⟨rfl, .inr ⟨by rw [h2], h3⟩⟩
        · constructor
          · rintro (h | ⟨h, _⟩)
            · exact .inl (.inl (by omega))
            · omega
          · rintro ((h | ⟨h, _⟩) | ⟨h, _⟩)
            · exact .inl (by omega)
            · exact absurd h hlen
            · rw [h] at hlen; exact absurd rfl hlen
end Go.Proofs.Ytnclfopdgilgaaa
