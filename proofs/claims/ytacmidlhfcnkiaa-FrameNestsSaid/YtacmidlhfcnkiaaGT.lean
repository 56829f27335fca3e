/- Layer 14: FrameNests. No condition. -/
import Derived.Test.YtacmidlhfcnkiaaGS
namespace Go.Proofs.Ytacmidlhfcnkiaa
open Go.RowKit Go.ChangeShapes Go.WideShapes
set_option linter.unusedVariables false

theorem orE_some (e c : Int) : orE e (some c) = 0 := rfl
set_option maxRecDepth 100000 in
set_option maxHeartbeats 8000000 in
theorem nests_walk (w : World) (A : Option Addr) (len cap : Nat) (zs : List Int) (R : RowIn .i64 w A len cap zs) (s : Int) (hs : (Lit.int .i64 s).wf = true) :
    Calls Try.prog 9 #[.slice A len cap, .int .i64 s] w fun e w' => e = .returned (.bool true) ∧ Mod [] w w' := by
  obtain ⟨X, n, C⟩ := R.came 30
  have hsI := Lib.hid (i64_of_wf hs)
  have hup := C.h
  have hmin : min (len : Int) 30 = (n : Int) := by have := C.e; omega
  have hn30 : n ≤ 30 := by have := C.e; omega
  have hnI : (n : Int) ≤ 30 := by omega
  have HN := Lib.hid C.n.symm
  have HAT := Lib.hid (fun W (m : Mod [] w W) j (hj : j < n) => (by
    obtain ⟨b, o, e, hc⟩ := C.at_ hj
    exact ⟨b, o, e, m.cell (by simp) hc⟩ : ∃ b o, A = some ⟨b, o, none⟩ ∧ W.cell? ⟨b, o + j, none⟩ = some (.int .i64 (X.getD j 0))))
  have H0 := Lib.hid (shown_calls w)
  have HL : (len : Int) ≤ 9223372036854775807 := by have := C.l; have := C.m; omega
  clear C R hs
  go_enter Try.func9, Try.ntmps9
  go_wp2_with fail
  refine (H0.out).mono ?_
  rintro e w1 ⟨rfl, hm1⟩
  have H1 := Lib.hid (new_fo hm1)
  clear hm1 H0
  go_wp2_with fail
  refine (H1.out).mono ?_
  rintro e w2 ⟨p, rfl, hF, _⟩
  have HF := Lib.hid hF
  clear hF H1
  go_wp2_with fail
  go_loopw [36] (fun z wr => ∃ i : Nat, z = .int .i64 (i : Int) ∧ i ≤ n ∧ RowKit.Hid (Fo TP w wr p (lps (X.take i)) [])) (fun z _ => n - (intOf z).toNat)
  case atStart => exact ⟨0, rfl, by omega, HF⟩
  case round =>
    obtain ⟨i, rfl, hi, hF⟩ := hrel
    by_cases hlt : i < n
    · have hiI : (i : Int) < (n : Int) := by omega
      have hi0 : (0 : Int) ≤ (i : Int) := by omega
      obtain ⟨b, o, rfl, hc⟩ := HAT.out wr hF.out.mod i hlt
      obtain ⟨hp1, hp2⟩ := push_lps (X := X) (i := i) (by rw [← HN.out]; exact hlt) (by rw [← HN.out]; exact hn30)
      obtain ⟨c, hcc⟩ : ∃ c, c = X.getD i 0 := ⟨_, rfl⟩
      rw [← hcc] at hc hp2
      have H2 := Lib.hid (hF.out.push (q := lpF c c) (Ls.nil wr) (by simp))
      rw [hp1, hp2] at H2
      clear hp1 hp2 hcc
      go_wp2_with fail
      refine (H2.out).mono ?_
      rintro e w3 ⟨rfl, hF3⟩
      have HF3 := Lib.hid hF3
      clear hF3 H2
      go_wp2_with fail
      go_roundw
      case rel => exact ⟨i + 1, by go_num, by omega, HF3⟩
      case measure => simp [intOf]; omega
    · have hiI : ¬ (i : Int) < (n : Int) := by omega
      have hin : i = n := by omega
      rw [hin, HN.out, List.take_length] at hF
      clear HF hin hi hlt
      go_wp2_with fail
      go_loopw [49] (fun z wr2 => ∃ j : Nat, z = .int .i64 (j : Int) ∧ j ≤ n ∧ RowKit.Hid (Fo TP w wr2 p (lps X) [])) (fun z _ => n - (intOf z).toNat)
      case atStart => exact ⟨0, rfl, by omega, hF⟩
      case round =>
        obtain ⟨j, rfl, hj, hF2⟩ := hrel
        by_cases hlt : j < n
        · have hjI : (j : Int) < (n : Int) := by omega
          have hj0 : (0 : Int) ≤ (j : Int) := by omega
          have H3 := Lib.hid (hF2.out.index (j : Int))
          rw [index_lps HN.out hlt, orE_some, Option.getD_some] at H3
          obtain ⟨k, hk⟩ : ∃ k, k = n - 1 - j := ⟨_, rfl⟩
          rw [← hk] at H3
          have hkI : (n : Int) - 1 - (j : Int) = (k : Int) := by omega
          have hk0 : (0 : Int) ≤ (k : Int) := by omega
          have hkn : (k : Int) < (n : Int) := by omega
          have hkn' : k < n := by omega
          obtain ⟨c, hcc⟩ : ∃ c, c = X.getD k 0 := ⟨_, rfl⟩
          have HC := Lib.hid hcc
          rw [← hcc] at H3
          clear hk hcc
          go_wp2_with fail
          refine (H3.out).mono ?_
          rintro e w3 ⟨rfl, hF3⟩
          obtain ⟨b, o, rfl, hc⟩ := HAT.out w3 hF3.mod k hkn'
          rw [← HC.out] at hc
          have HF3 := Lib.hid hF3
          clear hF3 H3
          go_wp2_with fail
          go_roundw
          case rel => exact ⟨j + 1, by go_num, by omega, HF3⟩
          case measure => simp [intOf]; omega
        · have hjI : ¬ (j : Int) < (n : Int) := by omega
          have hxl : (lps X).length = n := by rw [HN.out]; simp
          have H3 := Lib.hid (hF2.out.index (n : Int))
          rw [index_out (by rw [hxl]; omega)] at H3
          clear hF hj hlt hF2
          go_wp2_with fail
          refine (H3.out).mono ?_
          rintro e w3 ⟨rfl, hF3⟩
          have H4 := Lib.hid (hF3.index (-1))
          rw [index_out (by omega)] at H4
          clear hF3 H3
          go_wp2_with fail
          refine (H4.out).mono ?_
          rintro e w4 ⟨rfl, hF4⟩
          have HF4 := Lib.hid hF4
          clear hF4 H4
          simp only [orE, Option.isSome_none, Option.getD_none, Bool.false_eq_true, if_false]
          by_cases hn0 : n = 0
          · have hn0I : (n : Int) = 0 := by omega
            have HM := Lib.hid HF4.out.mod
            clear hn0 HF4
            go_wp2_with fail
            go_ret
            exact ⟨rfl, HM.out⟩
          · have hn0I : ¬ (n : Int) = 0 := by omega
            have hX0 : X ≠ [] := by rintro rfl; exact hn0 (by rw [HN.out]; rfl)
            have H5 := Lib.hid (HF4.out.step s)
            rw [(step_lps hX0 hsI.out).1, (step_lps hX0 hsI.out).2.1, (step_lps hX0 hsI.out).2.2] at H5
            clear HF4 hX0 hxl
            by_cases hsn : s < 0
            · have HSN := Lib.hid hsn
              rw [decide_eq_true hsn] at H5
              go_wp2_with fail
              refine (H5.out).mono ?_
              rintro e w5 ⟨rfl, hF5⟩
              have HF6 := Lib.hid hF5
              clear hF5 H5
              go_wp2_with fail
              go_loopw [22] (fun z wr3 => ∃ j : Nat, z = .int .i64 (j : Int) ∧ j ≤ n - 1 ∧ RowKit.Hid (Fo TP w wr3 p (nest X s) [])) (fun z _ => n - (intOf z).toNat)
              case atStart => exact ⟨0, rfl, by omega, HF6⟩
              case round =>
                obtain ⟨j, rfl,  hj, hF7⟩ := hrel
                by_cases hlt : j < n - 1
                · have hjI : (j : Int) < (n : Int) - 1 := by omega
                  have hjI2 : (j : Int) < (n : Int) - 1 + 0 := by omega
                  have hj0 : (0 : Int) ≤ (j : Int) := by omega
                  have H7 := Lib.hid (hF7.out.index (j : Int))
                  rw [index_nest_neg (by have := HSN.out; omega) HN.out (by omega), orE_some, Option.getD_some] at H7
                  obtain ⟨k, hk⟩ : ∃ k, k = n - 2 - j := ⟨_, rfl⟩
                  rw [← hk] at H7
                  have hkI : (n : Int) - 2 - (j : Int) = (k : Int) := by omega
                  have hkI2 : (n : Int) - 2 - (j : Int) + 0 = (k : Int) := by omega
                  have hk0 : (0 : Int) ≤ (k : Int) := by omega
                  have hkn : (k : Int) < (n : Int) := by omega
                  have hkn' : k < n := by omega
                  obtain ⟨c, hcc⟩ : ∃ c, c = X.getD k 0 := ⟨_, rfl⟩
                  have HC := Lib.hid hcc
                  rw [← hcc] at H7
                  clear hk hcc
                  go_wp2_with fail
                  refine (H7.out).mono ?_
                  rintro e w8 ⟨rfl, hF8⟩
                  obtain ⟨b, o, rfl, hc⟩ := HAT.out w8 hF8.mod k hkn'
                  rw [← HC.out] at hc
                  have HF8 := Lib.hid hF8
                  clear hF8 H7
                  go_wp2_with fail
                  go_roundw
                  case rel => exact ⟨j + 1, by go_num, by omega, HF8⟩
                  case measure => simp [intOf]; omega
                · have hjI : ¬ (j : Int) < (n : Int) - 1 := by omega
                  have hjI2 : ¬ (j : Int) < (n : Int) - 1 + 0 := by omega
                  have HM := Lib.hid hF7.out.mod
                  go_wp2_with fail
                  go_ret
                  exact ⟨rfl, HM.out⟩
            · have HSN := Lib.hid hsn
              rw [decide_eq_false hsn] at H5
              go_wp2_with fail
              refine (H5.out).mono ?_
              rintro e w5 ⟨rfl, hF5⟩
              have H6 := Lib.hid (hF5.index 0)
              rw [index_nest_top (by have := HSN.out; omega) HN.out (by omega), orE_some, Option.getD_some] at H6
              obtain ⟨k, hk⟩ : ∃ k, k = n - 1 := ⟨_, rfl⟩
              rw [← hk] at H6
              have hkI : (n : Int) - 1 = (k : Int) := by omega
              have hk0 : (0 : Int) ≤ (k : Int) := by omega
              have hkn : (k : Int) < (n : Int) := by omega
              have hkn' : k < n := by omega
              obtain ⟨c, hcc⟩ : ∃ c, c = X.getD k 0 := ⟨_, rfl⟩
              have HC := Lib.hid hcc
              rw [← hcc] at H6
              obtain ⟨d, hd⟩ : ∃ d, d = wrap64 (c + s) := ⟨_, rfl⟩
              rw [← hd] at H6
              have hd' : wrap64 (c + s) = d := hd.symm
              clear hk hcc hF5 H5 hd
              go_wp2_with fail
              refine (H6.out).mono ?_
              rintro e w6 ⟨rfl, hF6⟩
              obtain ⟨b, o, rfl, hc⟩ := HAT.out w6 hF6.mod k hkn'
              rw [← HC.out] at hc
              have HF6 := Lib.hid hF6
              clear hF6 H6
              go_wp2_with fail
              rw [hd']
              clear hd'
              go_loopw [22] (fun z wr3 => ∃ j : Nat, z = .int .i64 (j : Int) ∧ 1 ≤ j ∧ j ≤ n ∧ RowKit.Hid (Fo TP w wr3 p (nest X s) [])) (fun z _ => n - (intOf z).toNat)
              case atStart => exact ⟨1, rfl, by omega, by omega, HF6⟩
              case round =>
                obtain ⟨j, rfl, hj1, hj, hF7⟩ := hrel
                by_cases hlt : j < n
                · have hjI : (j : Int) < (n : Int) := by omega
                  have hjI2 : (j : Int) < (n : Int) - 1 + 1 := by omega
                  have hj0 : (0 : Int) ≤ (j : Int) := by omega
                  have H7 := Lib.hid (hF7.out.index (j : Int))
                  rw [index_nest_pos (by have := HSN.out; omega) HN.out (by omega) (by omega), orE_some, Option.getD_some] at H7
                  obtain ⟨k, hk⟩ : ∃ k, k = n - 1 - j := ⟨_, rfl⟩
                  rw [← hk] at H7
                  have hkI : (n : Int) - 2 - (j : Int) + 1 = (k : Int) := by omega
                  have hk0 : (0 : Int) ≤ (k : Int) := by omega
                  have hkn : (k : Int) < (n : Int) := by omega
                  have hkn' : k < n := by omega
                  obtain ⟨c, hcc⟩ : ∃ c, c = X.getD k 0 := ⟨_, rfl⟩
                  have HC := Lib.hid hcc
                  rw [← hcc] at H7
                  clear hk hcc
                  go_wp2_with fail
                  refine (H7.out).mono ?_
                  rintro e w8 ⟨rfl, hF8⟩
                  obtain ⟨b', o', e, hc⟩ := HAT.out w8 hF8.mod k hkn'
                  simp only [Option.some.injEq, Addr.mk.injEq, and_true] at e
                  rw [← e.1, ← e.2] at hc
                  clear e
                  rw [← HC.out] at hc
                  have HF8 := Lib.hid hF8
                  clear hF8 H7
                  go_wp2_with fail
                  go_roundw
                  case rel => exact ⟨j + 1, by go_num, by omega, by omega, HF8⟩
                  case measure => simp [intOf]; omega
                · have hjI : ¬ (j : Int) < (n : Int) := by omega
                  have hjI2 : ¬ (j : Int) < (n : Int) - 1 + 1 := by omega
                  have HM := Lib.hid hF7.out.mod
                  go_wp2_with fail
                  go_ret
                  exact ⟨rfl, HM.out⟩
end Go.Proofs.Ytacmidlhfcnkiaa
