/- Layer 10: an instruction as text, of the program and of the document. Condition: the table reads as the program's text lays it. -/
import Derived.Test.YtheealjhmndbgaaDoorIK
import Derived.Test.YtheealjhmndbgaaDoorC3ProgD
import Derived.Test.YtheealjhmndbgaaDoorC3RefE
import Derived.Test.YtheealjhmndbgaaDoorText
import Derived.Test.YtheealjhmndbgaaDoorShelfBits
namespace Go.Proofs.YtheealjhmndbgaaDoor
open Go.RowKit
set_option linter.unusedVariables false

/-- A cell in decimal digits. -/
def decL (n : Int) : List UInt8 := signed 10 (W (lo n) (hi n)).toNat (V (lo n) (hi n))
theorem dec_P (n : Int) : W (lo n) (hi n) = ((W (lo n) (hi n)).toNat : Int) := by have := W_bd (lo n) (hi n); omega
theorem dec_len (n : Int) : (decL n).length ≤ 129 := by
  have hb := W_bd (lo n) (hi n)
  have h1 := fun m (hm : m < two128) => (text_length 10 m (by decide) hm).2
  unfold decL signed
  split
  · rw [List.length_cons]
    have := h1 (-(V (lo n) (hi n))).toNat (by
      have := lo_i64 n
      have := hi_i64 n
      unfold V U two128 I64 at *
      omega)
    omega
  · have := h1 (W (lo n) (hi n)).toNat (by unfold two128; omega)
    omega
theorem Mod.of_ext {w w' : World} (h : Ext w w') : Mod [] w w' := Mod.of_below h.1
theorem lo_same {n : Int} (h : I64 n) : lo n = n := by unfold lo; exact wrap_id h
theorem hi_same {n : Int} (h : I64 n) : hi n = n / 9223372036854775808 := by
  unfold hi
  unfold I64 at h
  rw [wrap_id (by unfold I64; omega)]
  omega
theorem dec_calls (w : World) (n : Int) (hn : I64 n) : Calls Tryd.prog 32 #[.int .i64 n] w fun e w' => e = .returned (.string (str (decL n))) ∧ Mod [] w w' := by
  have k := signed_calls (lo n) (hi n) 10 (lo_i64 n) (hi_i64 n) _ 10 (dec_P n) rfl (by decide) (by decide)
  obtain ⟨D, hD⟩ : ∃ D, D = decL n := ⟨_, rfl⟩
  rw [← hD]
  have k2 : ∀ W, Calls Tryd.prog 39 #[.agg #[.int .i64 n, .int .i64 (n / 9223372036854775808)], .int .i64 10] W fun e w' => e = .returned (.string (str D)) ∧ Ext W w' := fun W => by
    have h := k W
    rw [hD]
    rw [lo_same hn, hi_same hn] at h
    unfold decL
    rw [lo_same hn, hi_same hn]
    exact h
  have H := Lib.hid k2
  clear k k2 hD
  go_enter Tryd.func32, Tryd.ntmps32
  go_wp2_with fail
  refine (H.out _).mono ?_
  rintro e w1 ⟨rfl, hx⟩
  have HX := Lib.hid (Mod.of_ext hx)
  clear hx
  go_wp2_with fail
  go_ret
  exact ⟨rfl, HX.out⟩
theorem add_str (a b : List UInt8) (ha : a.length ≤ 1000000) (hb : b.length ≤ 1000000) (W : World) : (Op.stringOp .add (str a) (str b)).run Tryd.prog W = .ok (.string (str (a ++ b))) W := by
  rw [run_string_add_sum W _ _ (by rw [str_size, str_size]; omega), str_append]
/-- An instruction as text. -/
def textX (x : Xi) : List UInt8 := (if isOpX x.op then nameX x.op else [63]) ++ [32] ++ decL (if x.op = 1 then x.w else x.a)
theorem name_len (op : Nat) : (nameX op).length ≤ 6 := by
  by_cases h : op < 16
  · have : op ∈ List.range 16 := List.mem_range.2 h
    simp only [List.range, List.range.loop, List.mem_cons, List.not_mem_nil, or_false] at this
    rcases this with rfl | rfl | rfl | rfl | rfl | rfl | rfl | rfl | rfl | rfl | rfl | rfl | rfl | rfl | rfl | rfl <;> decide
  · unfold nameX
    rw [List.getD_eq_getElem?_getD, List.getElem?_eq_none (by simp; omega)]
    simp
theorem text_len (x : Xi) : (textX x).length ≤ 136 := by
  unfold textX
  have h1 := name_len x.op
  have h2 := dec_len (if x.op = 1 then x.w else x.a)
  rw [List.length_append, List.length_append, List.length_singleton]
  split <;> (try rw [List.length_singleton]) <;> omega
set_option maxHeartbeats 2000000 in
theorem itext_calls {w : World} (g : Good w) (x : Xi) (hx : WellX x) : Calls Tryd.prog 25 #[insV x] w fun e w' => e = .returned (.string (str (textX x))) ∧ Mod [] w w' := by
  obtain ⟨op, a, v⟩ := x
  have ha : I64 a := hx.a
  have hv : I64 v := hx.w
  have hm := (Mod.refl [] w).alloc (.cells #[.int .u8 (op : Int), .int .i64 a, .int .i64 v] 36)
  have g1 := g.far hm
  have HM := Lib.hid hm
  obtain ⟨N, hN⟩ : ∃ N, N = (if isOpX op then nameX op else [63]) := ⟨_, rfl⟩
  obtain ⟨n, hn⟩ : ∃ n, n = (if op = 1 then v else a) := ⟨_, rfl⟩
  obtain ⟨D, hD⟩ : ∃ D, D = decL n := ⟨_, rfl⟩
  have ht : textX ⟨op, a, v⟩ = N ++ [32] ++ D := by rw [hN, hD, hn]; rfl
  have hNl : N.length ≤ 6 := by
    rw [hN]
    split
    · exact name_len _
    · simp
  have hnI : I64 n := by
    rw [hn]
    split
    · exact hv
    · exact ha
  have kD := fun W => dec_calls W n hnI
  rw [← hD] at kD
  have HDl := dec_len n
  rw [← hD] at HDl
  have e1 := fun W => add_str N [32] (by omega) (by simp) W
  have e2 := fun W => add_str (N ++ [32]) D (by simp; omega) (by omega) W
  have H2 := Lib.hid kD
  have k1 := fun W => isop_calls W op
  obtain ⟨io, hio⟩ : ∃ io, io = isOpX op := ⟨_, rfl⟩
  rw [← hio] at k1 hN
  have H1 := Lib.hid k1
  rw [ht]
  have HIO := Lib.hid hio
  rw [show str [32] = (⟨#[32]⟩ : ByteArray) from rfl] at e1
  by_cases h1 : op = 1
  · have h1b : ((op : Int) == 1) = true := by rw [h1]; rfl
    rw [if_pos h1] at hn
    subst hn
    cases io with
    | false =>
      rw [h1] at hio
      exact absurd hio (by decide)
    | true =>
      rw [if_pos rfl] at hN
      have hopl : op < 16 := by omega
      have hopI : (op : Int) < 16 := by omega
      have hgn : (w.alloc (.cells #[.int .u8 (op : Int), .int .i64 a, .int .i64 n] 36)).cell? ⟨0, op * 2, none⟩ = some (.string (str N)) := by rw [hN]; exact g1.n op hopl
      clear hx ha hv hm g1 g hN hD ht hNl hnI kD HDl k1 hio hopl h1
      go_enter Tryd.func25, Tryd.ntmps25
      go_wp2_with fail
      go_region
      all_goals
        go_wp2_with fail
        refine (H1.out _).mono ?_
        rintro e w1 ⟨rfl, rfl⟩
        go_wp2_with fail
        refine (H2.out _).mono ?_
        rintro e w2 ⟨rfl, hm2⟩
        have HM2 := Lib.hid hm2
        clear hm2
        go_wp2_with fail
        go_ret
        exact ⟨by simp, HM.out.drew.trans HM2.out⟩
  · have h1b : ((op : Int) == 1) = false := by rw [beq_eq_false_iff_ne]; omega
    rw [if_neg h1] at hn
    subst hn
    clear h1
    cases io with
    | true =>
      rw [if_pos rfl] at hN
      have hopl : op < 16 := by unfold isOpX at hio; have := of_decide_eq_true hio.symm; omega
      have hopI : (op : Int) < 16 := by omega
      have hgn : (w.alloc (.cells #[.int .u8 (op : Int), .int .i64 n, .int .i64 v] 36)).cell? ⟨0, op * 2, none⟩ = some (.string (str N)) := by rw [hN]; exact g1.n op hopl
      clear hx ha hv hm g1 g hN hD ht hNl hnI kD HDl k1 hio hopl
      go_enter Tryd.func25, Tryd.ntmps25
      go_wp2_with fail
      go_region
      all_goals
        go_wp2_with fail
        refine (H1.out _).mono ?_
        rintro e w1 ⟨rfl, rfl⟩
        go_wp2_with fail
        refine (H2.out _).mono ?_
        rintro e w2 ⟨rfl, hm2⟩
        have HM2 := Lib.hid hm2
        clear hm2
        go_wp2_with fail
        go_ret
        exact ⟨by simp, HM.out.drew.trans HM2.out⟩
    | false =>
      rw [if_neg (by simp)] at hN
      subst hN
      replace e1 : ∀ W, (Op.stringOp .add ⟨#[63]⟩ ⟨#[32]⟩).run Tryd.prog W = .ok (.string (str [63, 32])) W := e1
      replace e2 : ∀ W, (Op.stringOp .add (str [63, 32]) (str D)).run Tryd.prog W = .ok (.string (str ([63, 32] ++ D))) W := e2
      clear hx ha hv hm g1 g hD ht hNl hnI kD HDl k1 hio
      go_enter Tryd.func25, Tryd.ntmps25
      go_wp2_with fail
      go_region
      all_goals
        go_wp2_with fail
        refine (H1.out _).mono ?_
        rintro e w1 ⟨rfl, rfl⟩
        go_wp2_with fail
        refine (H2.out _).mono ?_
        rintro e w2 ⟨rfl, hm2⟩
        have HM2 := Lib.hid hm2
        clear hm2
        go_wp2_with fail
        go_ret
        exact ⟨by simp, HM.out.drew.trans HM2.out⟩
end Go.Proofs.YtheealjhmndbgaaDoor
