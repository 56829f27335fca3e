/- Layer 9: words and marks as whole structs compared; texts, ints; a dictionary that was made since a world (Dm) and its calls; shown. Condition: names have at most 1000000000 bytes. -/
import Derived.Test.YtldnpppbnakcoaaD9W
namespace Go.Proofs.Ytldnpppbnakcoaa
open Go.RowKit
set_option linter.unusedVariables false

set_option maxRecDepth 100000 in
theorem eq_mark9 (a b c d : Int) (w : World) : (Op.equalIn 10000 31 (.agg #[.int .i64 a, .int .i64 b]) (.agg #[.int .i64 c, .int .i64 d])).run Try.prog w = .ok (a == c && b == d) w := by
  have u3 := Try.underlying3
  have a3 := Try.isAgg3
  have z3 := Try.sizeOf3
  have hS : Try.prog.underlying 31 = some (.struct (Try.prog.fieldsOf 31)) := by kernel_rfl
  have hp : Try.prog.stoodInHeld 31 = false := by kernel_rfl
  rw [show (10000 : Nat) = 9999 + 1 from rfl, run_equalIn_agg w 9999 31 _ _ hS hp]
  simp only [Program.fieldsOf, Try.underlying31]
  go_simp
  by_cases h1 : a = c <;> by_cases h2 : b = d <;> simp [h1, h2]
@[go_sem ↓] theorem run_mark_eql (a b c d : Int) (w : World) : (binOp .eql 31 (.agg #[.int .i64 a, .int .i64 b]) (.agg #[.int .i64 c, .int .i64 d])).run Try.prog w = .ok (.bool (a == c && b == d)) w := by
  rw [run_eql_struct, eq_mark9]; rfl
@[go_sem ↓] theorem run_mark_neq (a b c d : Int) (w : World) : (binOp .neq 31 (.agg #[.int .i64 a, .int .i64 b]) (.agg #[.int .i64 c, .int .i64 d])).run Try.prog w = .ok (.bool (!(a == c && b == d))) w := by
  rw [run_neq_struct, eq_mark9]; rfl
@[go_sem ↓] theorem guard_mark9 (op : BinOp) (x y : Operand) (xs ys : Array Value) (w : World) : (eqGuard op 31 x y (.agg xs) (.agg ys)).run Try.prog w = .ok () w :=
  run_eqGuard_agg w op 31 x y xs ys (by kernel_rfl)
theorem toList_inj9 {s t : ByteArray} (h : s.toList = t.toList) : s = t := by
  rw [ByteArray.toList_eq, ByteArray.toList_eq] at h
  rw [str_back s, str_back t, h]
set_option maxRecDepth 100000 in
theorem eq_entry9 (s t : ByteArray) (a c : Int) (b d : Bool) (w : World) : (Op.equalIn 10000 49 (.agg #[.string s, .int .i64 a, .bool b]) (.agg #[.string t, .int .i64 c, .bool d])).run Try.prog w = .ok (decide (s = t) && a == c && b == d) w := by
  have u3 := Try.underlying3
  have a3 := Try.isAgg3
  have z3 := Try.sizeOf3
  have u9 := Try.underlying9
  have a9 := Try.isAgg9
  have z9 := Try.sizeOf9
  have u4 := Try.underlying4
  have a4 := Try.isAgg4
  have z4 := Try.sizeOf4
  have hS : Try.prog.underlying 49 = some (.struct (Try.prog.fieldsOf 49)) := by kernel_rfl
  have hp : Try.prog.stoodInHeld 49 = false := by kernel_rfl
  rw [show (10000 : Nat) = 9999 + 1 from rfl, run_equalIn_agg w 9999 49 _ _ hS hp]
  simp only [Program.fieldsOf, Try.underlying49]
  go_simp
  by_cases h0 : s = t
  · subst h0
    by_cases h1 : a = c <;> by_cases h2 : b = d <;> simp [h1, h2]
  · have h0' : ¬ s.toList = t.toList := fun e => h0 (toList_inj9 e)
    by_cases h1 : a = c <;> by_cases h2 : b = d <;> simp [h0, h0', h1, h2]
@[go_sem ↓] theorem run_entry_eql (s t : ByteArray) (a c : Int) (b d : Bool) (w : World) : (binOp .eql 49 (.agg #[.string s, .int .i64 a, .bool b]) (.agg #[.string t, .int .i64 c, .bool d])).run Try.prog w = .ok (.bool (decide (s = t) && a == c && b == d)) w := by
  rw [run_eql_struct, eq_entry9]; rfl
@[go_sem ↓] theorem run_entry_neq (s t : ByteArray) (a c : Int) (b d : Bool) (w : World) : (binOp .neq 49 (.agg #[.string s, .int .i64 a, .bool b]) (.agg #[.string t, .int .i64 c, .bool d])).run Try.prog w = .ok (.bool (!(decide (s = t) && a == c && b == d))) w := by
  rw [run_neq_struct, eq_entry9]; rfl
@[go_sem ↓] theorem guard_entry9 (op : BinOp) (x y : Operand) (xs ys : Array Value) (w : World) : (eqGuard op 49 x y (.agg xs) (.agg ys)).run Try.prog w = .ok () w :=
  run_eqGuard_agg w op 49 x y xs ys (by kernel_rfl)
/-- Texts that lie where a slice begins. -/
def TxAt (w : World) (A : Option Addr) (X : List ByteArray) : Prop := ∀ i (hi : i < X.length), ∃ b o, A = some ⟨b, o, none⟩ ∧ w.cell? ⟨b, o + i, none⟩ = some (.string X[i])
theorem TxAt.far {w w' : World} {A : Option Addr} {X : List ByteArray} (h : TxAt w A X) (m : Mod [] w w') : TxAt w' A X := fun i hi => by
  obtain ⟨b, o, e, hc⟩ := h i hi
  exact ⟨b, o, e, m.cell (by simp) hc⟩
theorem Sr.txat {w : World} {base : Nat} {v : Value} {X : List ByteArray} (h : Sr w base v X) : ∃ A cap, v = .slice A X.length cap ∧ TxAt w A X := by
  obtain ⟨A, cap, e, hc⟩ := h.opened
  exact ⟨A, cap, e, fun i hi => by
    obtain ⟨b, e2, hcc⟩ := hc i hi
    exact ⟨b, 0, e2, by rw [Nat.zero_add]; exact hcc⟩⟩
theorem take_eq {α : Type} {X Y : List α} {k : Nat} (hX : k < X.length) (hY : k < Y.length) (h : X.take k = Y.take k) (e : X[k] = Y[k]) : X.take (k + 1) = Y.take (k + 1) := by
  rw [List.take_succ_eq_append_getElem hX, List.take_succ_eq_append_getElem hY, h, e]
set_option maxHeartbeats 2000000 in
theorem texts_calls {w : World} {A B : Option Addr} {n m c d : Nat} {X Y : List ByteArray} (hA : TxAt w A X) (hB : TxAt w B Y) (hn : n = X.length) (hm : m = Y.length) (hb : n ≤ 1000000000) :
    Calls Try.prog 19 #[.slice A n c, .slice B m d] w fun e w' => e = .returned (.bool (decide (X = Y))) ∧ Mod [] w w' := by
  have HA := Lib.hid hA
  have HB := Lib.hid hB
  have HL := Lib.hid (And.intro hn hm)
  have hM := Mod.refl [] w
  have hbI : (n : Int) ≤ 1000000000 := by omega
  by_cases hne : n = m
  · subst hne
    obtain ⟨r, hr⟩ : ∃ r, r = decide (X = Y) := ⟨_, rfl⟩
    have HR := Lib.hid hr
    rw [← hr]
    clear hA hB hn hm hr
    go_enter Try.func19, Try.ntmps19
    go_wp2_with fail
    go_loopw [13] (fun z wr => ∃ k : Nat, z = .int .i64 (k : Int) ∧ k ≤ n ∧ RowKit.Hid (X.take k = Y.take k ∧ Mod [] w wr)) (fun z _ => n - (intOf z).toNat)
    case atStart => exact ⟨0, rfl, by omega, Lib.hid ⟨by simp, hM⟩⟩
    case round =>
      clear hM
      obtain ⟨k, rfl, hkn, hi⟩ := hrel
      by_cases hlt : k < n
      · have hltI : (k : Int) < (n : Int) := by omega
        have hkX : k < X.length := by rw [← HL.out.1]; exact hlt
        have hkY : k < Y.length := by rw [← HL.out.2]; exact hlt
        obtain ⟨b, o, rfl, hc⟩ := HA.out k hkX
        obtain ⟨b2, o2, rfl, hc2⟩ := HB.out k hkY
        replace hc := hi.out.2.cell (by simp) hc
        replace hc2 := hi.out.2.cell (by simp) hc2
        have HI := Lib.hid hi.out
        obtain ⟨S, hS⟩ : ∃ S, S = X[k] := ⟨_, rfl⟩
        obtain ⟨U, hU⟩ : ∃ U, U = Y[k] := ⟨_, rfl⟩
        rw [← hS] at hc
        rw [← hU] at hc2
        have HS := Lib.hid (And.intro hS hU)
        clear hS hU hi
        by_cases hSU : S = U
        · subst hSU
          go_upto_region 6 with fail
          go_region
          all_goals
            go_wp2_with fail
            go_roundw
            case rel => exact ⟨k + 1, by go_num, by omega, Lib.hid ⟨take_eq hkX hkY HI.out.1 (by rw [← HS.out.1, ← HS.out.2]), HI.out.2.drew⟩⟩
            case measure => simp [intOf]; omega
        · have hSUl : (S.toList == U.toList) = false := by
            rw [beq_eq_false_iff_ne]
            exact fun e => hSU (toList_inj9 e)
          have hr2 : r = false := by
            rw [HR.out]
            refine decide_eq_false fun e => hSU ?_
            rw [HS.out.1, HS.out.2]
            simp only [e]
          subst hr2
          clear HR hSU
          go_upto_region 6 with fail
          go_region
          all_goals
            go_wp2_with fail
            go_ret
            exact ⟨rfl, HI.out.2.drew⟩
      · have hltI : ¬ (k : Int) < (n : Int) := by omega
        have hr2 : r = true := by
          rw [HR.out]
          refine decide_eq_true ?_
          have h := hi.out.1
          rwa [List.take_of_length_le (by have := HL.out.1; omega), List.take_of_length_le (by have := HL.out.2; omega)] at h
        subst hr2
        have HI := Lib.hid hi.out.2
        clear HR hi
        go_wp2_with fail
        go_ret
        exact ⟨rfl, HI.out⟩
  · have hneI : ((n : Int) == (m : Int)) = false := by rw [beq_eq_false_iff_ne]; omega
    have hr : decide (X = Y) = false := decide_eq_false fun e => hne (by rw [hn, hm, e])
    rw [hr]
    clear hA hB hn hm hr
    go_enter Try.func19, Try.ntmps19
    go_wp2_with fail
    go_ret
    exact ⟨rfl, hM⟩
end Go.Proofs.Ytldnpppbnakcoaa
