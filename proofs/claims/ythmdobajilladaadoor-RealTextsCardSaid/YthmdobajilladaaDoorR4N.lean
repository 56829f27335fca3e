/- Layer 4 (package real): Number of each text. Condition: the text is of at most 1000 bytes. -/
import Derived.Test.YthmdobajilladaaDoorR4H
import Derived.Test.YthmdobajilladaaDoorNumT
import Derived.Test.YthmdobajilladaaDoorJF
import Derived.WalkSpells
import Derived.Lib.AtoiErrMem
import Derived.Deep.QuietTactic
import Derived.BigQuiet
namespace Go.Proofs.YthmdobajilladaaDoor
open Go.RowKit Ieee
set_option linter.unusedVariables false

abbrev bs (l : List UInt8) : ByteArray := ⟨l.toArray⟩
theorem bs_list (l : List UInt8) : (bs l).data.toList = l := by simp
theorem cutprefix_calls (l : List UInt8) (w : World) : Calls Tryd.prog 22 #[.string (bs l), .string ⟨#[45]⟩] w fun e w' => e = .returned (.tuple #[.string (bs (unMinus l)), .bool (isMinus l)]) ∧ Far w w' := by
  have h := Tryd.strings_CutPrefix (bs l) ⟨#[45]⟩ w
  rw [bs_list, show (⟨#[45]⟩ : ByteArray).data.toList = [45] from rfl, trim_minus, has_minus] at h
  exact h.mono fun e w' ⟨a, b⟩ => ⟨a, far_same' b⟩
theorem cut_calls (l : List UInt8) (hl : l.length ≤ 1000) (w : World) (g : GoodN w) : Calls Tryd.prog 23 #[.string (bs l), .string ⟨#[112]⟩] w fun e w' => e = .returned (.tuple #[.string (bs (spl l).1), .string (bs (spl l).2), .bool (Lib.cut l [112]).2.2]) ∧ Far w w' := by
  obtain ⟨m, hm⟩ := g.len
  have h := Tryd.strings_Cut (bs l) ⟨#[112]⟩ m w (by rw [size_list]; omega) hm
  rw [bs_list, show (⟨#[112]⟩ : ByteArray).data.toList = [112] from rfl, (cut_spl l).1, (cut_spl l).2] at h
  exact h.mono fun e w' ⟨a, n, b⟩ => ⟨a, by rw [b]; exact (Far.refl w).drewN n⟩
theorem spl_len (l : List UInt8) : (spl l).1.length ≤ l.length ∧ (spl l).2.length ≤ l.length := by
  rcases index_spl l with ⟨_, e⟩ | ⟨i, _, e⟩
  · rw [e]; exact ⟨Nat.le_refl _, Nat.zero_le _⟩
  · rw [e, List.length_take, List.length_drop]; omega
theorem unMinus_len (l : List UInt8) : (unMinus l).length ≤ l.length := by
  unfold unMinus
  cases isMinus l
  · exact Nat.le_refl _
  · simp
/-- digits of a text that is some. -/
theorem digits_ok (l : List UInt8) (k u : Nat) (hk : k ≤ 16) (h : digs l k = some u) (w : World) : Calls Tryd.prog 24 #[.string (bs l), .int .i64 (k : Int)] w fun e w' => e = .returned (.tuple #[.int .u64 (u : Int), .bool true]) ∧ Far w w' := by
  obtain ⟨h1, h2, _⟩ := parse_some hk h
  have hp := fun W => Tryd.strconv_ParseUint_10_at64_ok (bs l) (by rw [size_list]; omega) u (by rw [bs_list]; exact h1) W
  have HP := Lib.hid hp
  have hs : ¬ (k : Int) < ((bs l).size : Int) := by rw [size_list]; omega
  generalize bs l = S at *
  clear h h1 h2 hp
  go_enter Tryd.func24, Tryd.ntmps24
  go_wp2_with fail
  refine (HP.out _).mono ?_
  rintro e w1 ⟨rfl, hw⟩
  have hx : Far w w1 := by
    rcases hw with rfl | rfl
    · exact Far.refl _
    · exact Lib.bytesWorld_below _ _ _
  clear hw
  go_wp2_with fail
  go_quiet (fail)
  go_wp2_with fail
  go_ret2
  exact ⟨rfl, hx.drewN _⟩
/-- ParseUint of a text that is no row of digits. -/
theorem parse_bad (l : List UInt8) (k : Nat) (hk : k ≤ 16) (hl : l.length ≤ k) (h : digs l k = none) (w : World) (g : GoodN w) : Calls Tryd.prog 40 #[.string (bs l), .int .i64 10, .int .i64 64] w fun e w' => ∃ N : Nat, e = .returned (.tuple #[.int .u64 0, .iface 96 (.pointer (some ⟨N, 0, none⟩))]) ∧ Far w w' := by
  obtain ⟨tp, p, hv⟩ := g.syn
  have hno := parse_none h hl
  have hnr := parse_norange (l := l) (by omega)
  cases hr : Lib.parseUintB 64 l with
  | ok u => exact absurd hr (hno u)
  | range => exact absurd hr hnr
  | _ =>
    rw [← bs_list l] at hr
    exact (Any.strconv_ParseUint_10_at64_syntax_var Tryd.laysPu14 (bs l) (by rw [size_list]; omega) hr tp p w hv).mono fun e w' ⟨N, a, _, _, b⟩ => ⟨N, a, b⟩
theorem digits_no (l : List UInt8) (k : Nat) (hk : k ≤ 16) (h : digs l k = none) (w : World) (g : GoodN w) : Calls Tryd.prog 24 #[.string (bs l), .int .i64 (k : Int)] w fun e w' => e = .returned (.tuple #[.int .u64 0, .bool false]) ∧ Far w w' := by
  by_cases hl : l.length ≤ k
  · have HP := Lib.hid (parse_bad l k hk hl h w g)
    have hs : ¬ (k : Int) < ((bs l).size : Int) := by rw [size_list]; omega
    generalize bs l = S at *
    clear h hl g
    go_enter Tryd.func24, Tryd.ntmps24
    go_wp2_with fail
    refine HP.out.mono ?_
    rintro e w1 ⟨N, rfl, hx⟩
    go_wp2_with fail
    go_quiet (fail)
    go_wp2_with fail
    go_ret2
    exact ⟨rfl, hx.drewN _⟩
  · have hs : (k : Int) < ((bs l).size : Int) := by rw [size_list]; omega
    generalize bs l = S at *
    clear h hl g
    go_enter Tryd.func24, Tryd.ntmps24
    go_wp2_with fail
    go_ret2
    exact ⟨rfl, Far.refl _⟩
theorem digits_ok_a (l : List UInt8) (u : Nat) (h : digs l 16 = some u) (w : World) : Calls Tryd.prog 24 #[.string (bs l), .int .i64 16] w fun e w' => e = .returned (.tuple #[.int .u64 (u : Int), .bool true]) ∧ Far w w' := digits_ok l 16 u (by decide) h w
theorem digits_no_a (l : List UInt8) (h : digs l 16 = none) (w : World) (g : GoodN w) : Calls Tryd.prog 24 #[.string (bs l), .int .i64 16] w fun e w' => e = .returned (.tuple #[.int .u64 0, .bool false]) ∧ Far w w' := digits_no l 16 (by decide) h w g
theorem digits_ok_b (l : List UInt8) (u : Nat) (h : digs l 4 = some u) (w : World) : Calls Tryd.prog 24 #[.string (bs l), .int .i64 4] w fun e w' => e = .returned (.tuple #[.int .u64 (u : Int), .bool true]) ∧ Far w w' := digits_ok l 4 u (by decide) h w
theorem digits_no_b (l : List UInt8) (h : digs l 4 = none) (w : World) (g : GoodN w) : Calls Tryd.prog 24 #[.string (bs l), .int .i64 4] w fun e w' => e = .returned (.tuple #[.int .u64 0, .bool false]) ∧ Far w w' := digits_no l 4 (by decide) h w g
theorem ldW_le (r : Nat) (p : Int) (h : r ≤ 9218868437227405312) : ldW r p ≤ 9218868437227405312 := by
  unfold ldW
  by_cases c0 : r = 0
  · rw [if_pos c0]; decide
  · rw [if_neg c0]
    by_cases c1 : r = 9218868437227405312
    · rw [if_pos c1]; decide
    · rw [if_neg c1]; exact nearest_le _ _
theorem scaled_calls (x : Nat) (hx : x ≤ 9218868437227405312) (p : Int) (hp : -10000 ≤ p ∧ p ≤ 10000) (w : World) :
    Calls Tryd.prog 25 #[.float .f64 x, .int .i64 p] w fun e w' => e = .returned (.tuple #[.float .f64 (ldW x p), .bool (double.order (ldW (ldW x p) (-p)) x == some .eq)]) ∧ w = w' := by
  have h1 := Lib.hid (ldexp_calls x hx p ⟨by omega, by omega⟩)
  have h2 := Lib.hid (ldexp_calls (ldW x p) (ldW_le x p hx) (-p) ⟨by omega, by omega⟩)
  obtain ⟨b, hb⟩ : ∃ b, (FloatKind.f64.format.order (ldW (ldW x p) (-p)) x == some .eq) = b := ⟨_, rfl⟩
  have e : (double.order (ldW (ldW x p) (-p)) x == some .eq) = b := hb
  rw [e]
  clear e
  generalize ldW (ldW x p) (-p) = z at *
  generalize ldW x p = y at *
  obtain ⟨p1, p2⟩ := hp
  clear hx
  go_enter Tryd.func25, Tryd.ntmps25
  go_wp2_with fail
  refine (h1.out _).mono ?_
  rintro e w1 ⟨rfl, rfl⟩
  go_wp2_with fail
  refine (h2.out _).mono ?_
  rintro e w1 ⟨rfl, rfl⟩
  go_wp2_with fail
  go_ret2
  exact ⟨rfl, rfl⟩
theorem From.goodn {w : World} (g : GoodN w) {f : FuncId} {xs : Array Value} {v : Value} (h : ∀ W, GoodN W → Calls Tryd.prog f xs W fun e w' => e = .returned v ∧ Far W w') : From w f xs v := fun W hw =>
  (h W (g.far hw)).mono fun _ _ ⟨a, b⟩ => ⟨a, hw.trans b⟩
def numA (l : List UInt8) : List UInt8 := (spl (unMinus l)).1
def numB (l : List UInt8) : List UInt8 := (spl (unMinus l)).2
def numP (l : List UInt8) (v : Nat) : Int := if isMinus (numB l) then -(v : Int) else (v : Int)
def numY (l : List UInt8) (u v : Nat) : Nat := ldW (ofF (u : Int)) (numP l v)
def numOk (l : List UInt8) (u v : Nat) : Bool := double.order (ldW (numY l u v) (-numP l v)) (ofF (u : Int)) == some .eq
/-- The number that a text is. -/
def numR (l : List UInt8) : Int × Bool :=
  match digs (numA l) 16, digs (unMinus (numB l)) 4 with
  | some u, some v => if u ≤ 9007199254740992 then if numOk l u v then (cellOf (if isMinus l then negW (numY l u v) else numY l u v), true) else (0, false) else (0, false)
  | _, _ => (0, false)
theorem ofF_le (u : Nat) : ofF (u : Int) ≤ 9218868437227405312 := by
  rw [ofF_is, show decide ((u : Int) < 0) = false by apply decide_eq_false; omega]
  exact nearest_le _ _
set_option maxHeartbeats 4000000 in
set_option maxRecDepth 100000 in
theorem number_calls (l : List UInt8) (hl : l.length ≤ 1000) (w : World) (g : GoodN w) :
    Calls Tryd.prog 9 #[.string (bs l)] w fun e w' => e = .returned (.tuple #[.int .i64 (numR l).1, .bool (numR l).2]) ∧ Far w w' := by
  have l1 := unMinus_len l
  have l2 := spl_len (unMinus l)
  have l3 := unMinus_len (numB l)
  have C1 := Lib.hid (From.far (cutprefix_calls l) (w := w))
  have C2 := Lib.hid (From.goodn g (cut_calls (unMinus l) (by omega)) (w := w))
  have C3 := Lib.hid (From.far (cutprefix_calls (numB l)) (w := w))
  have hf := Far.refl w
  have hA : digs (numA l) 16 = none ∨ ∃ u, digs (numA l) 16 = some u := by cases digs (numA l) 16 <;> simp
  have hB : digs (unMinus (numB l)) 4 = none ∨ ∃ v, digs (unMinus (numB l)) 4 = some v := by cases digs (unMinus (numB l)) 4 <;> simp
  unfold numR
  change Hid (From w 23 _ (.tuple #[.string (bs (numA l)), .string (bs (numB l)), _])) at C2
  rcases hA with hA | ⟨u, hA⟩
  · have A1 := Lib.hid (From.goodn g (digits_no_a (numA l) hA) (w := w))
    rcases hB with hB | ⟨v, hB⟩
    · have B1 := Lib.hid (From.goodn g (digits_no_b (unMinus (numB l)) hB) (w := w))
      rw [hA, hB]
      generalize isMinus l = m1 at *
      generalize (Lib.cut (unMinus l) [112]).2.2 = m3 at *
      generalize isMinus (numB l) = m2 at *
      generalize bs (unMinus (numB l)) = s5 at *
      generalize bs (numA l) = s4 at *
      generalize bs (numB l) = s3 at *
      generalize bs (unMinus l) = s2 at *
      generalize bs l = s1 at *
      clear l1 l2 l3 hA hB hl g
      go_enter Tryd.func9, Tryd.ntmps9
      go_wp2_with (first | ((with_reducible refine (C1.out _ ?_).mono ?_); assumption; rintro e w' ⟨rfl, hf⟩) | ((with_reducible refine (C2.out _ ?_).mono ?_); assumption; rintro e w' ⟨rfl, hf⟩) | ((with_reducible refine (C3.out _ ?_).mono ?_); assumption; rintro e w' ⟨rfl, hf⟩) | ((with_reducible refine (A1.out _ ?_).mono ?_); assumption; rintro e w' ⟨rfl, hf⟩) | ((with_reducible refine (B1.out _ ?_).mono ?_); assumption; rintro e w' ⟨rfl, hf⟩))
      all_goals (go_ret2; exact ⟨rfl, by assumption⟩)
    · have B1 := Lib.hid (From.far (digits_ok_b (unMinus (numB l)) v hB) (w := w))
      rw [hA, hB]
      generalize isMinus l = m1 at *
      generalize (Lib.cut (unMinus l) [112]).2.2 = m3 at *
      generalize isMinus (numB l) = m2 at *
      generalize bs (unMinus (numB l)) = s5 at *
      generalize bs (numA l) = s4 at *
      generalize bs (numB l) = s3 at *
      generalize bs (unMinus l) = s2 at *
      generalize bs l = s1 at *
      clear l1 l2 l3 hA hB hl g
      go_enter Tryd.func9, Tryd.ntmps9
      go_wp2_with (first | ((with_reducible refine (C1.out _ ?_).mono ?_); assumption; rintro e w' ⟨rfl, hf⟩) | ((with_reducible refine (C2.out _ ?_).mono ?_); assumption; rintro e w' ⟨rfl, hf⟩) | ((with_reducible refine (C3.out _ ?_).mono ?_); assumption; rintro e w' ⟨rfl, hf⟩) | ((with_reducible refine (A1.out _ ?_).mono ?_); assumption; rintro e w' ⟨rfl, hf⟩) | ((with_reducible refine (B1.out _ ?_).mono ?_); assumption; rintro e w' ⟨rfl, hf⟩))
      all_goals (go_ret2; exact ⟨rfl, by assumption⟩)
  · have A1 := Lib.hid (From.far (digits_ok_a (numA l) u hA) (w := w))
    obtain ⟨_, _, u1⟩ := parse_some (by decide) hA
    rcases hB with hB | ⟨v, hB⟩
    · have B1 := Lib.hid (From.goodn g (digits_no_b (unMinus (numB l)) hB) (w := w))
      rw [hA, hB]
      generalize isMinus l = m1 at *
      generalize (Lib.cut (unMinus l) [112]).2.2 = m3 at *
      generalize isMinus (numB l) = m2 at *
      generalize bs (unMinus (numB l)) = s5 at *
      generalize bs (numA l) = s4 at *
      generalize bs (numB l) = s3 at *
      generalize bs (unMinus l) = s2 at *
      generalize bs l = s1 at *
      clear l1 l2 l3 hA hB hl g
      go_enter Tryd.func9, Tryd.ntmps9
      go_wp2_with (first | ((with_reducible refine (C1.out _ ?_).mono ?_); assumption; rintro e w' ⟨rfl, hf⟩) | ((with_reducible refine (C2.out _ ?_).mono ?_); assumption; rintro e w' ⟨rfl, hf⟩) | ((with_reducible refine (C3.out _ ?_).mono ?_); assumption; rintro e w' ⟨rfl, hf⟩) | ((with_reducible refine (A1.out _ ?_).mono ?_); assumption; rintro e w' ⟨rfl, hf⟩) | ((with_reducible refine (B1.out _ ?_).mono ?_); assumption; rintro e w' ⟨rfl, hf⟩))
      all_goals (go_ret2; exact ⟨rfl, by assumption⟩)
    · have B1 := Lib.hid (From.far (digits_ok_b (unMinus (numB l)) v hB) (w := w))
      obtain ⟨_, _, v1⟩ := parse_some (by decide) hB
      rw [hA, hB]
      simp only
      have u2 : u < 10000000000000000 := u1
      have v2 : v < 10000 := v1
      clear u1 v1
      by_cases c : u ≤ 9007199254740992
      · rw [if_pos c]
        have hof : floatOfInt .f64 (u : Int) = ofF (u : Int) := rfl
        have hp : -10000 ≤ numP l v ∧ numP l v ≤ 10000 := by unfold numP; cases isMinus (numB l) <;> simp <;> omega
        have S1 := Lib.hid (From.same (scaled_calls (ofF (u : Int)) (ofF_le u) (numP l v) hp) (w := w))
        have T1 := Lib.hid (From.same (tocell_calls (numY l u v)) (w := w))
        have T2 := Lib.hid (From.same (tocell_calls (negW (numY l u v))) (w := w))
        change Hid (From w 25 _ (.tuple #[.float .f64 (numY l u v), .bool (numOk l u v)])) at S1
        have cc : ¬ (9007199254740992 : Int) < (u : Int) := by omega
        have hpp : numP l v = if isMinus (numB l) then -(v : Int) else (v : Int) := rfl
        generalize numOk l u v = ok at *
        generalize numY l u v = y at *
        generalize ofF (u : Int) = fu at *
        generalize isMinus l = m1 at *
        generalize (Lib.cut (unMinus l) [112]).2.2 = m3 at *
        rw [hpp] at S1
        clear hpp hp
        generalize isMinus (numB l) = m2 at *
        generalize bs (unMinus (numB l)) = s5 at *
        generalize bs (numA l) = s4 at *
        generalize bs (numB l) = s3 at *
        generalize bs (unMinus l) = s2 at *
        generalize bs l = s1 at *
        clear l1 l2 l3 hA hB hl g c
        cases m1 <;> cases m2 <;> cases ok
        all_goals
          simp only [Bool.false_eq_true, if_false, if_true] at S1 ⊢
          go_enter Tryd.func9, Tryd.ntmps9
          go_wp2_with (first | ((with_reducible refine (C1.out _ ?_).mono ?_); assumption; rintro e w' ⟨rfl, hf⟩) | ((with_reducible refine (C2.out _ ?_).mono ?_); assumption; rintro e w' ⟨rfl, hf⟩) | ((with_reducible refine (C3.out _ ?_).mono ?_); assumption; rintro e w' ⟨rfl, hf⟩) | ((with_reducible refine (A1.out _ ?_).mono ?_); assumption; rintro e w' ⟨rfl, hf⟩) | ((with_reducible refine (B1.out _ ?_).mono ?_); assumption; rintro e w' ⟨rfl, hf⟩) | ((with_reducible refine (S1.out _ ?_).mono ?_); assumption; rintro e w' ⟨rfl, hf⟩) | ((with_reducible refine (T1.out _ ?_).mono ?_); assumption; rintro e w' ⟨rfl, hf⟩) | ((with_reducible refine (T2.out _ ?_).mono ?_); assumption; rintro e w' ⟨rfl, hf⟩))
          all_goals (go_ret2; exact ⟨rfl, by assumption⟩)
      · rw [if_neg c]
        have cc : (9007199254740992 : Int) < (u : Int) := by omega
        generalize isMinus l = m1 at *
        generalize (Lib.cut (unMinus l) [112]).2.2 = m3 at *
        generalize isMinus (numB l) = m2 at *
        generalize bs (unMinus (numB l)) = s5 at *
        generalize bs (numA l) = s4 at *
        generalize bs (numB l) = s3 at *
        generalize bs (unMinus l) = s2 at *
        generalize bs l = s1 at *
        clear l1 l2 l3 hA hB hl g
        go_enter Tryd.func9, Tryd.ntmps9
        go_wp2_with (first | ((with_reducible refine (C1.out _ ?_).mono ?_); assumption; rintro e w' ⟨rfl, hf⟩) | ((with_reducible refine (C2.out _ ?_).mono ?_); assumption; rintro e w' ⟨rfl, hf⟩) | ((with_reducible refine (C3.out _ ?_).mono ?_); assumption; rintro e w' ⟨rfl, hf⟩) | ((with_reducible refine (A1.out _ ?_).mono ?_); assumption; rintro e w' ⟨rfl, hf⟩) | ((with_reducible refine (B1.out _ ?_).mono ?_); assumption; rintro e w' ⟨rfl, hf⟩))
        all_goals (go_ret2; exact ⟨rfl, by assumption⟩)
end Go.Proofs.YthmdobajilladaaDoor
