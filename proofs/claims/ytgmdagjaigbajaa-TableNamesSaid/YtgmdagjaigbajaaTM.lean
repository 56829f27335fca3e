/- Layer 12: the document's example; the first bytes of a text; words told by both are the document's (TablePlays). Condition: texts of at most 9223372036854775807 bytes, numbers of 64 bits. -/
import Derived.Test.YtgmdagjaigbajaaTL
import Derived.Lib.MinMax
namespace Go.Proofs.Ytgmdagjaigbajaa
open Go.RowKit
set_option linter.unusedVariables false

/-- The first m bytes of a text. -/
def cutN (m : Nat) (S : ByteArray) : List UInt8 := S.data.toList.take m
theorem cutN_len (m : Nat) (S : ByteArray) : (cutN m S).length ≤ m := by unfold cutN; rw [List.length_take]; omega
theorem cutN_at (m : Nat) (S : ByteArray) : ∃ q : Nat, min (S.size : Int) (m : Int) = (q : Int) ∧ q ≤ S.size ∧ S.extract 0 q = str (cutN m S) ∧ q = (cutN m S).length := by
  have h := str_extract S.data.toList 0
  rw [← str_back S] at h
  have hs : S.data.toList.length = S.size := by rw [Array.length_toList]; rfl
  by_cases hm : S.size ≤ m
  · refine ⟨S.size, by omega, Nat.le_refl _, ?_, ?_⟩
    · rw [h]
      unfold cutN
      simp only [List.drop_zero, Nat.sub_zero]
      rw [List.take_of_length_le (by omega), List.take_of_length_le (by omega)]
    · unfold cutN
      rw [List.length_take]
      omega
  · refine ⟨m, by omega, by omega, ?_, ?_⟩
    · rw [h]
      simp [cutN]
    · unfold cutN
      rw [List.length_take]
      omega
theorem find_dup : findT (foldL [68, 85, 80]) = some ⟨[100, 117, 112], 1, 28, false, false⟩ := by kernel_rfl
set_option maxHeartbeats 400000 in
theorem shown_calls (w : World) : Calls Try.prog 7 #[] w fun e w' => e = .returned (.bool true) ∧ Mod [] w w' := by
  have k1 : Calls Try.prog 8 #[.string ⟨#[68, 85, 80]⟩] w fun e w' => e = .returned (.tuple #[.agg #[.string ⟨#[100, 117, 112]⟩, .int .i64 1, .int .i64 28, .bool false, .bool false], .bool true]) ∧ Mod [] w w' := by
    have := find_calls [68, 85, 80] (by decide) w
    rw [find_dup] at this
    exact this
  have K1 := Lib.hid k1
  clear k1
  go_enter Try.func7, Try.ntmps7
  go_wp2_with fail
  refine (K1.out).mono ?_
  rintro e w1 ⟨rfl, m1⟩
  have M1 := Lib.hid (m1.alloc (.cells #[.string ⟨#[100, 117, 112]⟩, .int .i64 1, .int .i64 28, .bool false, .bool false] 24))
  clear m1
  go_wp2_with fail
  go_ret
  exact ⟨rfl, M1.out⟩
/-- What Find tells, as cells. -/
theorem fiV_ex (o : Option En) : ∃ (S : ByteArray) (k n : Int) (a b r : Bool), fiV o = .tuple #[.agg #[.string S, .int .i64 k, .int .i64 n, .bool a, .bool b], .bool r] := by
  cases o with
  | none => exact ⟨_, _, _, _, _, _, rfl⟩
  | some x => exact ⟨_, _, _, _, _, _, rfl⟩
set_option maxHeartbeats 4000000 in
set_option maxRecDepth 100000 in
theorem plays_walk (w : World) (S : ByteArray) (hs : S.size ≤ 9223372036854775807) (k : Int) (hk : (Lit.int .i64 k).wf = true) (n : Int) (hn : (Lit.int .i64 n).wf = true) :
    Calls Try.prog 3 #[.string S, .int .i64 k, .int .i64 n] w fun e w' => e = .returned (.bool true) ∧ Mod [] w w' := by
  have H0 := Lib.hid (shown_calls w)
  obtain ⟨q, hq, hq2, hq3, hq4⟩ := cutN_at 40 S
  have hl := cutN_len 40 S
  replace hq : min (S.size : Int) 40 = (q : Int) := hq
  have F1 := Lib.hid (fun W => find_calls (cutN 40 S) (by omega) W)
  have F2 := Lib.hid (fun W => rfind_calls (cutN 40 S) (by omega) W)
  have N1 := Lib.hid (fun W => name_calls k n (i64_of_wf hn) W)
  have N2 := Lib.hid (fun W => rname_calls k n (i64_of_wf hn) W)
  have A1 := Lib.hid (fun W => all_calls W)
  have A2 := Lib.hid (fun W => rall_calls W)
  obtain ⟨Y, hY⟩ : ∃ Y, Y = str (cutN 40 S) := ⟨_, rfl⟩
  rw [← hY] at hq3 F1 F2
  obtain ⟨xF, xk, xn, xa, xb, xr, hf⟩ := fiV_ex (findT (foldL (cutN 40 S)))
  rw [hf] at F1 F2
  obtain ⟨Z, hZ⟩ : ∃ Z, Z = str (nameT k n) := ⟨_, rfl⟩
  rw [← hZ] at N1 N2
  have hZZ : (Z.toList == Z.toList) = true := by rw [beq_iff_eq]
  clear hY hf hZ hl hk hn hq4
  go_enter Try.func3, Try.ntmps3
  go_wp2_with fail
  refine (H0.out).mono ?_
  rintro e w1 ⟨rfl, m1⟩
  have M1 := Lib.hid m1
  clear m1
  go_wp2_with fail
  refine (F1.out _).mono ?_
  rintro e w2 ⟨rfl, m2⟩
  have M2 := Lib.hid (M1.out.trans m2)
  clear m2
  go_wp2_with fail
  refine (F2.out _).mono ?_
  rintro e w3 ⟨rfl, m3⟩
  have a1 := Bx5.new w2 (.string xF) (.int .i64 xk) (.int .i64 xn) (.bool xa) (.bool xb) 24
  have P3 := Lib.hid (a1.far m3)
  have M3 := Lib.hid ((M2.out.alloc (.cells #[.string xF, .int .i64 xk, .int .i64 xn, .bool xa, .bool xb] 24)).trans m3)
  clear a1 m3
  obtain ⟨p, hp⟩ : ∃ p, p = w2.heap.size := ⟨_, rfl⟩
  rw [← hp] at P3 ⊢
  clear hp
  go_upto_region 5 with fail
  have b1 := Bx5.new w3 (.string xF) (.int .i64 xk) (.int .i64 xn) (.bool xa) (.bool xb) 24
  have m4 : Mod [] w3 (w3.alloc (.cells #[.string xF, .int .i64 xk, .int .i64 xn, .bool xa, .bool xb] 24)) := (Mod.refl [] w3).alloc _
  generalize w3.alloc (.cells #[.string xF, .int .i64 xk, .int .i64 xn, .bool xa, .bool xb] 24) = w4 at *
  obtain ⟨r, hr⟩ : ∃ r, r = w3.heap.size := ⟨_, rfl⟩
  rw [← hr] at b1 ⊢
  clear hr
  have P4 := Lib.hid (P3.out.far m4)
  have R4 := Lib.hid b1
  have M4 := Lib.hid (M3.out.trans m4)
  clear b1 m4
  go_wp2_with fail
  refine (A1.out _).mono ?_
  rintro e w5 ⟨v1, rfl, e1, m5⟩
  obtain ⟨B1, c1, rfl, t1⟩ := e1.at
  rw [tab_len]
  have T5 := Lib.hid t1
  have M5 := Lib.hid m5
  clear e1 t1 m5
  go_wp2_with fail
  refine (A2.out _).mono ?_
  rintro e w6 ⟨v2, rfl, e2, m6⟩
  obtain ⟨B2, c2, rfl, t2⟩ := e2.at
  rw [tab_len]
  have T6 := Lib.hid t2
  have U6 := Lib.hid (T5.out.far m6)
  have P6 := Lib.hid ((P4.out.far M5.out).far m6)
  have R6 := Lib.hid ((R4.out.far M5.out).far m6)
  have M6 := Lib.hid ((M4.out.trans M5.out).trans m6)
  clear e2 t2 m6
  obtain ⟨X, hX⟩ : ∃ X, X = tab := ⟨_, rfl⟩
  have hXl : X.length = 180 := by rw [hX]; exact tab_len
  rw [← hX] at T6 U6
  clear hX
  go_wp2_with fail
  go_loopw [41] (fun y wr => ∃ j : Nat, y = .int .i64 (j : Int) ∧ j ≤ 180 ∧ RowKit.Hid (Mod [] w6 wr)) (fun y _ => 181 - (intOf y).toNat)
  case atStart => exact ⟨0, rfl, by omega, Lib.hid (Mod.refl _ _)⟩
  case round =>
    obtain ⟨j, rfl, hj, hi⟩ := hrel
    have h2 := hi.out
    by_cases hlt : j < 180
    · have hjI : (j : Int) < 180 := by omega
      have hjX : j < X.length := by omega
      obtain ⟨b, rfl, g0, g1, g2, g3, g4⟩ := (U6.out.far h2) j hjX
      obtain ⟨d, rfl, f0, f1, f2, f3, f4⟩ := (T6.out.far h2) j hjX
      generalize X[j] = x at *
      obtain ⟨N, hN⟩ : ∃ N, N = str x.s := ⟨_, rfl⟩
      rw [← hN] at g0 f0
      obtain ⟨y2, hy2⟩ : ∃ y, y = (x.n : Int) := ⟨_, rfl⟩
      rw [← hy2] at g2 f2
      have HI := Lib.hid h2
      clear hi h2 hN hy2
      go_upto_region 11 with fail
      go_region
      all_goals
        go_wp2_with fail
        go_roundw
        case rel => exact ⟨j + 1, by go_num, by omega, Lib.hid HI.out.drew⟩
        case measure => simp [intOf]; omega
    · have hjI : ¬ (j : Int) < 180 := by omega
      obtain ⟨p0, p1, p2, p3, p4, _, _⟩ := P6.out.far h2
      obtain ⟨r0, r1, r2, r3, r4, _, _⟩ := R6.out.far h2
      have M7 := Lib.hid (M6.out.trans h2)
      clear hi h2
      go_wp2_with fail
      refine (N1.out _).mono ?_
      rintro e w8 ⟨rfl, m8⟩
      have M8 := Lib.hid (M7.out.trans m8)
      clear m8
      go_wp2_with fail
      refine (N2.out _).mono ?_
      rintro e w9 ⟨rfl, m9⟩
      have M9 := Lib.hid (M8.out.trans m9)
      clear m9
      go_wp2_with fail
      go_ret
      exact ⟨rfl, M9.out⟩
end Go.Proofs.Ytgmdagjaigbajaa
