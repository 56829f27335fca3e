/- Layer 13: a number is made digit by digit, and told. Condition: numbers are of their kinds. -/
import Derived.Test.YtegcecpmdgljpaaGreatDoorVF
namespace Go.Proofs.YtegcecpmdgljpaaGreatDoor
open Go.RowKit
set_option linter.unusedVariables false

/-- A block of one's own, newer than the state, is written. -/
theorem Lv.own {w0 w w1 w2 : World} {a : Ad} {K : List (Nat × Option Obj)} {C : List Int} {μ : Mu} (h : Lv w0 w a K C μ) {b : Nat} (hb : w.heap.size ≤ b) (k : Mod [] w w1) (hl : b < w1.heap.size) (k2 : Mod [b] w1 w2) : Lv w0 w2 a [(b, w2.heap[b]?)] C μ := by
  obtain ⟨T, h, m, hT, _⟩ := h
  have hbT : b ∉ T := fun hx => by have := h.tl _ hx; omega
  have h1 := (h.far k).other k2 (by simp; exact hbT) (by simp; right; exact Nat.le_trans h.hi hb) (by simp; exact Nat.le_trans h.good.big hb)
  refine ⟨T, h1, (m.far k).then k2 (by simp; exact Nat.le_trans m.size hb), hT, fun x hx => ?_⟩
  obtain rfl : x = (b, w2.heap[b]?) := by simpa using hx
  exact ⟨hbT, Nat.lt_of_lt_of_le hl k2.size, rfl⟩
theorem put2_cells {w : World} {b : Nat} {x y : Value} (h : Own w b x y) (u v : Value) : ((w.setCell ⟨b, 0, none⟩ u).setCell ⟨b, 1, none⟩ v).cell? ⟨b, 0, none⟩ = some u ∧ ((w.setCell ⟨b, 0, none⟩ u).setCell ⟨b, 1, none⟩ v).cell? ⟨b, 1, none⟩ = some v := by
  constructor
  · rw [World.cell?_setCell_other (h := by intro e; injection e with _ e; exact absurd e (by decide))]
    exact World.cell?_setCell_same _ _ _ (h := h.c0)
  · exact World.cell?_setCell_same _ _ _ (h := cell_other h.c1 (by decide))
theorem muB_in (x : Int) (hx : I64 x) (h1 : 2 ≤ x) (h2 : x ≤ 36) : baseV (muB x) = x ∧ baseE (muB x) = 0 := by
  unfold baseV baseE
  rw [muB_base x hx, if_pos ⟨h1, h2⟩, if_pos ⟨h1, h2⟩]
  exact ⟨rfl, rfl⟩
theorem muB_out (x : Int) (hx : I64 x) (h : ¬ (2 ≤ x ∧ x ≤ 36)) : baseV (muB x) = 0 ∧ baseE (muB x) = -40 := by
  unfold baseV baseE
  rw [muB_base x hx, if_neg h, if_neg h]
  exact ⟨rfl, rfl⟩
/-- The state behind the told number. -/
def mu1 (base x y : Int) : Mu := { muB base with O := sayL [] (str (numL base.toNat x y)) }
theorem ddot_uni (x y base : Int) (hx : I64 x) (hy : I64 y) (hb : I64 base) (h1 : 2 ≤ base) (h2 : base ≤ 36) : Uni 93 2 [x, y] (muB base) [] 0 (mu1 base x y) :=
  act_93_of x y _ _ (muB base) _ fun W a T R h => saynum_ok hx hy base.toNat (by rw [muB_base base hb]; omega) (by omega) (by omega) h
theorem ddot_no (x y base : Int) (hb : I64 base) (h : ¬ (2 ≤ base ∧ base ≤ 36)) : Uni 93 2 [x, y] (muB base) [] (-40) (muB base) := by
  have := act_93_of x y _ _ (muB base) _ fun W a T R h' => saynum_err (x := x) (y := y) (by rw [(muB_out base hb h).2]; decide) h'
  rw [(muB_out base hb h).2] at this
  exact this
theorem three_in {x y z : Int} (hx : I64 x) (hy : I64 y) (hz : I64 z) : ∀ u ∈ [x, y, z], I64 u := by simp; exact ⟨hx, hy, hz⟩
theorem sl_three (w : World) (x y z : Int) (t : TypeId) : Sl (w.alloc (.cells #[.int .i64 x, .int .i64 y, .int .i64 z] t)) (some ⟨w.heap.size, 0, none⟩) [x, y, z] := fun j hj => ⟨w.heap.size, 0, rfl, by
  have h3 : j = 0 ∨ j = 1 ∨ j = 2 := by simp at hj; omega
  rw [World.cell?_alloc_new]
  rcases h3 with rfl | rfl | rfl <;> rfl⟩
/-- The five steps: digits, rot, sign, end, type. -/
def opsN : List Int := [104, 32, 106, 107, 98]
def muD (base x y : Int) (P : Nat) : Mu := { mu1 base x y with K := text base.toNat P ++ [] }
def muS (base x y : Int) (P : Nat) : Mu := { muD base x y P with K := if y < 0 then 45 :: (text base.toNat P ++ []) else text base.toNat P ++ [] }
def stN (base x y sx sy : Int) (P : Nat) : Nat → List Int × Mu
  | 0 => ([y, sx, sy], mu1 base x y)
  | 1 => ([y, 0, 0], muD base x y P)
  | 2 => ([0, 0, y], muD base x y P)
  | 3 => ([0, 0], muS base x y P)
  | 4 => ([(endAt (muS base x y P) : Int), ((muS base x y P).K.length : Int)], endM (muS base x y P))
  | _ => ([], { endM (muS base x y P) with O := sayL (muS base x y P).O (str (muS base x y P).K) })
theorem num_step {w0 w : World} {a : Ad} {K : List (Nat × Option Obj)} (base x y sx sy : Int) (P : Nat) (hy : I64 y) (hsx : I64 sx) (hsy : I64 sy) (hb : I64 base) (h1 : 2 ≤ base) (h2 : base ≤ 36) (hP : W sx sy = (P : Int)) (j : Nat) (hj : j < 5) (h : Lv w0 w a K (stN base x y sx sy P j).1 (stN base x y sx sy P j).2) :
    Calls Tryz.prog 14 #[Pt a.s, .int .i64 (opsN.getD j 0)] w (Lv.Did w0 w a K (stN base x y sx sy P (j + 1)).1 (stN base x y sx sy P (j + 1)).2 0) := by
  have hPl : P < two128 := by have := W_bd sx sy; unfold two128; omega
  have hl := (text_length base.toNat P (by omega) hPl).2
  have hbase : baseC (mu1 base x y) = (base.toNat : Int) := by have := muB_base base hb; show baseC (muB base) = _; omega
  have hlen : (muS base x y P).B.length = 1024 := muB_len base
  have hk : (muS base x y P).K.length ≤ 129 := by
    show (if y < 0 then 45 :: (text base.toNat P ++ []) else text base.toNat P ++ []).length ≤ 129
    split <;> simp <;> omega
  rcases (show j = 0 ∨ j = 1 ∨ j = 2 ∨ j = 3 ∨ j = 4 by omega) with rfl | rfl | rfl | rfl | rfl
  · exact (show Lv w0 w a K ([y] ++ [sx, sy]) (mu1 base x y) from h).ok (n := 104) (by decide) rfl (digits_uni sx sy hsx hsy (mu1 base x y) base.toNat P hP hbase (by omega) (by omega) (by show (text base.toNat P ++ []).length ≤ 200; simp; omega)) (two_in zero_i64 zero_i64) (by simp)
  · have := (show Lv w0 w a K [y, 0, 0] (muD base x y P) from h).stk 32 (by decide)
    rw [show doL 32 [y, 0, 0] = (0, [0, 0, y]) from rfl] at this
    exact this
  · exact (show Lv w0 w a K ([0, 0] ++ [y]) (muD base x y P) from h).ok (n := 106) (by decide) rfl (sign_uni y (muD base x y P) (by show (text base.toNat P ++ []).length < 200; simp; omega)) (by simp) (by decide)
  · exact (show Lv w0 w a K ([] ++ [0, 0]) (muS base x y P) from h).ok (n := 107) (by decide) rfl (end_uni 0 0 (muS base x y P)) (two_in (by unfold I64 endAt; omega) (by unfold I64; omega)) (by simp)
  · exact (show Lv w0 w a K ([] ++ [(endAt (muS base x y P) : Int), ((muS base x y P).K.length : Int)]) (endM (muS base x y P)) from h).ok (n := 98) (by decide) rfl (type_uni (muS base x y P) hlen (by omega)) (by simp) (by simp)
theorem num_out (base x y : Int) (P : Nat) (hx : I64 x) (hy : I64 y) (h2 : 2 ≤ base) (hK : (if y < 0 then 45 :: (text base.toNat P ++ []) else text base.toNat P ++ []) = signed base.toNat (W x y).toNat (V x y)) :
    str (sayL (muS base x y P).O (str (muS base x y P).K)) = (bytes (signed base.toNat (W x y).toNat (V x y)) ++ ⟨#[32]⟩) ++ bytes (signed base.toNat (W x y).toNat (V x y)) := by
  have hl := signed_len13 base.toNat x y hx hy (by omega)
  have e1 : (muS base x y P).O = numL base.toNat x y := by
    show sayL [] (str (numL base.toNat x y)) = _
    unfold sayL numL
    rw [str_list, List.take_of_length_le (by simp; omega)]
    rfl
  have e2 : (muS base x y P).K = signed base.toNat (W x y).toNat (V x y) := hK
  rw [e1, e2]
  unfold sayL
  rw [str_list, List.take_of_length_le (by unfold numL; simp; omega)]
  unfold numL
  rw [show bytes (signed base.toNat (W x y).toNat (V x y)) ++ ⟨#[32]⟩ = str (signed base.toNat (W x y).toNat (V x y) ++ [32]) from str_append _ [32]]
  exact (str_append _ _).symm
end Go.Proofs.YtegcecpmdgljpaaGreatDoor
