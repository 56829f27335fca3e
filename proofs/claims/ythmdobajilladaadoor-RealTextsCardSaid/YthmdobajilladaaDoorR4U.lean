/- The document's answers for layer 4: digits of a number, a number of digits. Condition: cells are integers of 64 bits; texts of at most 1000 bytes. -/
import Derived.Test.YthmdobajilladaaDoorR4T
import Derived.Test.YthmdobajilladaaDoorR4N
import Derived.Test.YthmdobajilladaaDoorC3RefE
import Derived.Test.YthmdobajilladaaDoorNumV
namespace Go.Proofs.YthmdobajilladaaDoor
open Go.RowKit
set_option linter.unusedVariables false

theorem W_pos (n : Int) (h0 : 0 ≤ n) (h : I64 n) : W (lo n) (hi n) = n := by
  obtain ⟨e1, e2⟩ := of_is n h
  rw [e1, e2, if_neg (by omega)]
  unfold W U
  unfold I64 at h
  omega
theorem V_int (n : Int) (h : I64 n) : V (lo n) (hi n) = n := by
  obtain ⟨e1, e2⟩ := of_is n h
  rw [e1, e2]
  exact V_of n h
theorem signed_itoa (n : Int) (h : I64 n) (P : Nat) (hP : W (lo n) (hi n) = P) : Go.Proofs.YthmdobajilladaaDoor.signed 10 P (V (lo n) (hi n)) = Lib.itoa n := by
  rw [V_int n h]
  unfold Go.Proofs.YthmdobajilladaaDoor.signed Lib.itoa
  unfold I64 at h
  by_cases c : n < 0
  · rw [if_pos c, if_pos c, text_dec _ (by unfold two128; omega), show (-n).toNat = n.natAbs by omega]
  · rw [if_neg c, if_neg c]
    have e := W_pos n (by omega) h
    have : P = n.toNat := by omega
    rw [this, text_dec _ (by unfold two128; omega)]
theorem rdigits4 (n : Int) (h : I64 n) (w : World) : Calls Tryd.prog 35 #[.int .i64 n] w fun e w' => e = .returned (.string ⟨(Lib.itoa n).toArray⟩) ∧ Ext w w' := by
  obtain ⟨P, hP⟩ : ∃ P : Nat, W (lo n) (hi n) = P := ⟨(W (lo n) (hi n)).toNat, by have := W_bd (lo n) (hi n); omega⟩
  have hs := fun W' => rsigned_calls W' (lo n) (hi n) 10 (lo_i64 n) (hi_i64 n) P 10 hP rfl (by decide) (by decide) W' (Ext.refl W')
  rw [signed_itoa n h P hP] at hs
  have hs2 : ∀ W', Calls Tryd.prog 52 #[.agg #[.int .i64 (lo n), .int .i64 (hi n)], .int .i64 10] W' fun e w' => e = .returned (.string ⟨(Lib.itoa n).toArray⟩) ∧ Ext W' w' := hs
  have HO := Lib.hid (fun W' => rof_calls W' n h W' (Ext.refl W'))
  have HS := Lib.hid hs2
  generalize (⟨(Lib.itoa n).toArray⟩ : ByteArray) = S at *
  generalize lo n = x at *
  generalize hi n = y at *
  clear hs hs2 hP h
  go_enter Tryd.func35, Tryd.ntmps35
  go_wp2_with fail
  refine (HO.out _).mono ?_
  rintro e w1 ⟨rfl, h1⟩
  go_wp2_with fail
  refine (HS.out _).mono ?_
  rintro e w2 ⟨rfl, h2⟩
  go_wp2_with fail
  go_ret
  exact ⟨rfl, h1.trans h2⟩
theorem lo_small (u : Nat) (h : u < 9223372036854775808) : lo (u : Int) = (u : Int) := by unfold lo wrap64; omega
theorem rwhole4 (l : List UInt8) (hl : l.length ≤ 1000) (k : Nat) (hk : k ≤ 16) (w : World) : Calls Tryd.prog 27 #[.string (bs l), .int .i64 (k : Int)] w fun e w' => e = .returned (.tuple #[.int .i64 (lo ((acc 10 0 l).1 : Int)), .bool (digs l k).isSome]) ∧ Ext w w' := by
  have ha := fun W' => raccept_calls W' 0 0 10 (by unfold I64; omega) (by unfold I64; omega) (bs l) (by rw [size_list]; omega) 0 10 (by decide) rfl (by decide) (by decide) W' (Ext.refl W')
  rw [bs_list] at ha
  have HA := Lib.hid ha
  have hz : (bs l).size = l.length := size_list l
  have hd : (digs l k).isSome = (decide (1 ≤ l.length) && decide (l.length ≤ k) && ((acc 10 0 l).2 == 0)) := by
    cases h : digs l k with
    | none =>
      have := acc_nodigs l k h
      rw [Option.isSome_none]
      symm
      rw [Bool.eq_false_iff]
      intro q
      simp only [Bool.and_eq_true, decide_eq_true_eq, beq_iff_eq] at q
      exact this ⟨q.1.1, q.1.2, q.2⟩
    | some u =>
      have h1 := acc_digs l k u hk h
      have h2 := parse_some hk h
      have h3 : l ≠ [] := by
        intro q
        rw [q] at h
        unfold digs at h
        rw [if_neg (fun z => z.1 rfl)] at h
        cases h
      rw [Option.isSome_some, h1]
      have : 1 ≤ l.length := by cases l with
        | nil => exact absurd rfl h3
        | cons c l => simp
      simp [this, h2.2.1]
  rw [hd]
  clear hd ha
  generalize bs l = S at *
  generalize lo ((acc 10 0 l).1 : Int) = x at *
  generalize hi ((acc 10 0 l).1 : Int) = y at *
  generalize (acc 10 0 l).2 = left at *
  generalize l.length = n at *
  have res : ∀ b : Bool, (decide (1 ≤ n) && decide (n ≤ k) && (left == 0)) = b → Calls Tryd.prog 27 #[.string S, .int .i64 (k : Int)] w (fun e w' => e = .returned (.tuple #[.int .i64 x, .bool b]) ∧ Ext w w') → Calls Tryd.prog 27 #[.string S, .int .i64 (k : Int)] w (fun e w' => e = .returned (.tuple #[.int .i64 x, .bool (decide (1 ≤ n) && decide (n ≤ k) && (left == 0))]) ∧ Ext w w') := fun b hb h => by rw [hb]; exact h
  by_cases c1 : 1 ≤ n
  · have d1 : (1 : Int) ≤ (n : Int) := by omega
    by_cases c2 : n ≤ k
    · have d2 : (n : Int) ≤ (k : Int) := by omega
      by_cases c3 : left = 0
      · refine res true (by rw [decide_eq_true c1, decide_eq_true c2, c3]; rfl) ?_
        subst c3
        clear res c1 c2
        go_enter Tryd.func27, Tryd.ntmps27
        go_wp2_with fail
        refine (HA.out _).mono ?_
        rintro e w1 ⟨rfl, h1⟩
        go_wp2_with fail
        go_ret2
        exact ⟨rfl, h1.cells _ _⟩
      · refine res false (by rw [beq_eq_false_iff_ne.2 c3, Bool.and_false]) ?_
        have d3 : ((left : Int) == 0) = false := beq_eq_false_iff_ne.2 (by omega)
        clear res c1 c2 c3
        go_enter Tryd.func27, Tryd.ntmps27
        go_wp2_with fail
        refine (HA.out _).mono ?_
        rintro e w1 ⟨rfl, h1⟩
        go_wp2_with fail
        go_ret2
        exact ⟨rfl, h1.cells _ _⟩
    · refine res false (by rw [decide_eq_false c2, Bool.and_false, Bool.false_and]) ?_
      have d2 : ¬ (n : Int) ≤ (k : Int) := by omega
      clear res c1 c2
      go_enter Tryd.func27, Tryd.ntmps27
      go_wp2_with fail
      refine (HA.out _).mono ?_
      rintro e w1 ⟨rfl, h1⟩
      go_wp2_with fail
      go_ret2
      exact ⟨rfl, h1.cells _ _⟩
  · refine res false (by rw [decide_eq_false c1, Bool.false_and, Bool.false_and]) ?_
    have d1 : ¬ (1 : Int) ≤ (n : Int) := by omega
    clear res c1
    go_enter Tryd.func27, Tryd.ntmps27
    go_wp2_with fail
    refine (HA.out _).mono ?_
    rintro e w1 ⟨rfl, h1⟩
    go_wp2_with fail
    go_ret2
    exact ⟨rfl, h1.cells _ _⟩
end Go.Proofs.YthmdobajilladaaDoor
