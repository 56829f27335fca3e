/- Layer 5: MemMoves's walk. Condition: the arguments are a slice of bytes and numbers of their kinds. -/
import Derived.Test.YtahnbllmgalgpaaM5K
import Derived.Deep.QuietTactic
import Derived.BigQuiet
namespace Go.Proofs.Ytahnbllmgalgpaa
open Go.RowKit
set_option linter.unusedVariables false

theorem textB_extract (l : List UInt8) (i j : Nat) : (textB l).extract i j = textB ((l.drop i).take (j - i)) := by
  apply ByteArray.ext
  rw [ByteArray.data_extract]
  apply Array.toList_inj.1
  simp [textB, List.extract]
theorem textB_append (a b : List UInt8) : textB a ++ textB b = textB (a ++ b) := by
  apply ByteArray.ext
  rw [ByteArray.data_append]
  apply Array.toList_inj.1
  simp [textB]
theorem moves_val (B : List UInt8) (f t n : Nat) (T : ByteArray) (hT : T = textB B) (h1 : f + n ≤ B.length) (h2 : t + n ≤ B.length) (L : Nat) (hL : L = B.length) :
    ((textB (splice B t ((B.drop f).take n))).toList == (T.extract 0 t ++ T.extract f (f + n) ++ T.extract (t + n) L).toList) = true := by
  subst hT hL
  rw [textB_extract, textB_extract, textB_extract, textB_append, textB_append, beq_iff_eq]
  congr 1
  have e1 : ((B.drop f).take n).length = n := by simp; omega
  unfold splice
  rw [e1, List.drop_zero, Nat.sub_zero, Nat.add_sub_cancel_left]
  have e2 : (B.drop (t + n)).take (B.length - (t + n)) = B.drop (t + n) := List.take_of_length_le (by simp)
  rw [e2]
theorem ret_true {b : Bool} (h : b = true) : Ending.returned (.bool b) = .returned (.bool true) := by rw [h]
theorem all_quiet {w : World} {p q : Nat} {B : List UInt8} {h : Int} (m : Mm w p q B h) (n : Nat) :
    Calls Try.prog 15 #[Pt p] (w.drewN n) fun e w' => e = .returned (.string (textB B)) ∧ ∃ m, w' = w.drewN m :=
  (all_calls (m.ext ((Ext.refl w).drewN n))).mono fun e w' ⟨he, hw⟩ => ⟨he, n, hw.symm⟩
set_option maxRecDepth 100000 in
theorem moves_walk (w : World) (A : Option Addr) (len cap : Nat) (zs : List Int) (a b c : Int) (R0 : Row .u8 w A len cap zs) (ha : (Lit.int .u16 a).wf = true) (hb : (Lit.int .u16 b).wf = true) (hc : (Lit.int .u16 c).wf = true) :
    Calls Try.prog 5 #[.slice A len cap, .int .u16 a, .int .u16 b, .int .u16 c] w fun e w' => e = .returned (.bool true) ∧ Ext w w' := by
  obtain ⟨s, hcut⟩ := R0.cut 500 500 rfl
  have HC := Lib.hid hcut
  have hle := R0.le
  have hsl := hcut.len
  have hu := bounds_u16 ha
  have hv := bounds_u16 hb
  have hw := bounds_u16 hc
  obtain ⟨f, hf⟩ : ∃ f : Nat, a % 512 = (f : Int) := ⟨(a % 512).toNat, by omega⟩
  obtain ⟨t, ht⟩ : ∃ f : Nat, b % 512 = (f : Int) := ⟨(b % 512).toNat, by omega⟩
  obtain ⟨n, hn⟩ : ∃ f : Nat, c % 512 = (f : Int) := ⟨(c % 512).toNat, by omega⟩
  have f1 : f < 512 := by omega
  have t1 : t < 512 := by omega
  have n1 : n < 512 := by omega
  have HO := Lib.hid (And.intro hf (And.intro ht hn))
  clear hcut R0 ha hb hc hf ht hn
  have hS := Lib.hid (shown_calls w)
  go_enter Try.func5, Try.ntmps5
  go_wp2_with fail
  refine (hS.out).mono ?_
  rintro e w0 ⟨rfl, hx0⟩
  have hN := Lib.hid (new_lit 1024 1024 rfl w0 (by omega) (by omega) (by omega))
  go_wp2_with fail
  refine (hN.out).mono ?_
  rintro e w1 ⟨p, q, rfl, hm, hx1, hp, hq⟩
  have HX := Lib.hid (hx0.trans hx1)
  have HM := Lib.hid hm
  have HP := Lib.hid (And.intro (Nat.le_trans hx0.1.size hp) (Nat.le_trans hx0.1.size hq))
  clear hx0 hx1 hm hN hS hp hq
  have h1 := HC.out.a1 w1
  have h2 := HC.out.a2 w1
  have h3 := HC.out.b1 w1 HX.out
  have h4 := HC.out.b2 w1 HX.out
  go_upto_region 5 with fail
  go_cut [12] (fun u wx => u = .string (textB s) ∧ w1 = wx)
  case first =>
    go_wp2_with fail
    all_goals
      go_meet
      exact ⟨rfl, rfl⟩
  case rest =>
    obtain ⟨rfl, rfl⟩ := hcut
    clear h1 h2 h3 h4
    have hz : (zeros 1024).length = 1024 := List.length_replicate
    have hW := write_ok HM.out 100 (textB s) (by rw [hz, textB_size]; omega)
    rw [textB_list] at hW
    have HW := Lib.hid (show Calls Try.prog 17 #[Pt p, .int .i64 100, .string (textB s)] w1 fun e w' => e = .returned (.int .i64 0) ∧ Mm w' p q (splice (zeros 1024) 100 s) 0 ∧ Kept p q w1 w' from hW)
    have hl1 := splice_len (B := zeros 1024) (o := 100) (l := s) (by rw [hz]; omega)
    rw [hz] at hl1
    obtain ⟨B1, hB1⟩ : ∃ B1, B1 = splice (zeros 1024) 100 s := ⟨_, rfl⟩
    rw [← hB1] at HW hl1
    have HL1 := Lib.hid hl1
    have o1 := HO.out.1
    have o2 := HO.out.2.1
    have o3 := HO.out.2.2
    clear HM hW hz hl1 hB1 HC hsl
    go_wp2_with fail
    refine (HW.out).mono ?_
    rintro e w2 ⟨rfl, hm, hk⟩
    have HK := Lib.hid hk
    have HA := Lib.hid (all_calls hm)
    have HV := Lib.hid (move_ok hm f t n (by rw [HL1.out]; omega) (by rw [HL1.out]; omega))
    have ht2 : (textB B1).size = 1024 := by rw [textB_size, HL1.out]
    obtain ⟨T, hT⟩ : ∃ T, T = textB B1 := ⟨_, rfl⟩
    rw [← hT] at ht2 HA
    have HT := Lib.hid hT
    clear HW hm hk hT
    go_wp2_with fail
    refine (HA.out).mono ?_
    rintro e w3 ⟨rfl, rfl⟩
    go_wp2_with fail
    refine (HV.out).mono ?_
    rintro e w4 ⟨rfl, hm, hk⟩
    have HA2 := Lib.hid (fun n => all_quiet hm n)
    have HX4 := Lib.hid (HX.out.kept (HK.out.trans hk) HP.out.1 HP.out.2)
    clear HA HV hm hk HX HK
    go_wp2_with fail
    have q1 : IntKind.i64.wrap ((f : Int) + (n : Int)) = (f : Int) + (n : Int) := IntWalk.i64_in _ (by omega)
    have q2 : IntKind.i64.wrap ((t : Int) + (n : Int)) = (t : Int) + (n : Int) := IntWalk.i64_in _ (by omega)
    have q3 : (t : Int) ≤ (T.size : Int) := by omega
    have q4 : (f : Int) + (n : Int) ≤ (T.size : Int) := by omega
    have q5 : (t : Int) + (n : Int) ≤ (T.size : Int) := by omega
    have q6 : (f : Int) ≤ (f : Int) + (n : Int) := by omega
    go_quiet ((go_at_call 15; exact HA2.out _))
    have hv := moves_val B1 f t n T HT.out (by rw [HL1.out]; omega) (by rw [HL1.out]; omega) 1024 HL1.out.symm
    go_wp2
    go_ret
    exact ⟨ret_true hv, HX4.out.drewN nq⟩
end Go.Proofs.Ytahnbllmgalgpaa
