/- Layer 5: MemKeeps's walk. Condition: the arguments are a slice of bytes and numbers of their kinds. -/
import Derived.Test.YtahnbllmgalgpaaM5K
namespace Go.Proofs.Ytahnbllmgalgpaa
open Go.RowKit
set_option linter.unusedVariables false

set_option maxRecDepth 100000 in
theorem keeps_walk (w : World) (A : Option Addr) (len cap : Nat) (zs : List Int) (a x : Int) (R0 : Row .u8 w A len cap zs) (ha : (Lit.int .u8 a).wf = true) (hx : (Lit.int .i64 x).wf = true) :
    Calls Try.prog 4 #[.slice A len cap, .int .u8 a, .int .i64 x] w fun e w' => e = .returned (.bool true) ∧ Ext w w' := by
  obtain ⟨s, hcut⟩ := R0.cut 1024 1024 rfl
  have HC := Lib.hid hcut
  have hle := R0.le
  have hI := i64_of_wf hx
  have hsl := hcut.len
  have hu := bounds_u8 ha
  obtain ⟨o, ho⟩ : ∃ o : Nat, a % 128 * 8 = (o : Int) := ⟨(a % 128 * 8).toNat, by omega⟩
  have ho1 : o + 8 ≤ 1024 ∧ o % 8 = 0 := by omega
  have HO := Lib.hid ho
  clear hcut R0 ha hx ho
  have hS := Lib.hid (shown_calls w)
  go_enter Try.func4, Try.ntmps4
  go_wp2_with fail
  refine (hS.out).mono ?_
  rintro e w0 ⟨rfl, hx0⟩
  have hN := Lib.hid (new_lit 1024 1024 rfl w0 (by omega) (by omega) (by omega))
  go_wp2_with fail
  refine (hN.out).mono ?_
  rintro e w1 ⟨p, q, rfl, hm, hx1, hp, hq⟩
  have HX := Lib.hid (hx0.trans hx1)
  have HM := Lib.hid hm
  have HP := Lib.hid (And.intro (Nat.le_trans hx0.1.size hp) (Nat.le_trans hx0.1.size hq))
  clear hx0 hx1 hm hN hS hp hq
  have h1 := HC.out.a1 w1
  have h2 := HC.out.a2 w1
  have h3 := HC.out.b1 w1 HX.out
  have h4 := HC.out.b2 w1 HX.out
  go_upto_region 5 with fail
  go_cut [10] (fun u wx => u = .string (textB s) ∧ w1 = wx)
  case first =>
    go_wp2_with fail
    all_goals
      go_meet
      exact ⟨rfl, rfl⟩
  case rest =>
    obtain ⟨rfl, rfl⟩ := hcut
    clear h1 h2 h3 h4
    have hz : (zeros 1024).length = 1024 := List.length_replicate
    have hW := write_ok HM.out 0 (textB s) (by rw [hz, textB_size]; omega)
    rw [textB_list] at hW
    have HW := Lib.hid (show Calls Try.prog 17 #[Pt p, .int .i64 0, .string (textB s)] w1 fun e w' => e = .returned (.int .i64 0) ∧ Mm w' p q (splice (zeros 1024) 0 s) 0 ∧ Kept p q w1 w' from hW)
    have hl1 := splice_len (B := zeros 1024) (o := 0) (l := s) (by rw [hz]; omega)
    rw [hz] at hl1
    have hl2 := splice_len (B := splice (zeros 1024) 0 s) (o := o) (l := le8 x) (by rw [le8_len, hl1]; exact ho1.1)
    rw [hl1] at hl2
    obtain ⟨B1, hB1⟩ : ∃ B1, B1 = splice (zeros 1024) 0 s := ⟨_, rfl⟩
    rw [← hB1] at HW hl1 hl2
    obtain ⟨B2, hB2⟩ : ∃ B2, B2 = splice B1 o (le8 x) := ⟨_, rfl⟩
    rw [← hB2] at hl2
    have HB1 := Lib.hid hB1
    have HB2 := Lib.hid hB2
    have HL1 := Lib.hid hl1
    have HL2 := Lib.hid hl2
    have HI := Lib.hid hI
    have HO1 := Lib.hid ho1
    have ho := HO.out
    have hs1 : (s.length : Int) ≤ 1024 := by omega
    have hs2 : (textB s).size = s.length := textB_size s
    clear HM hW hz hl1 hl2 hB1 hB2 hI HC hsl ho1
    go_wp2_with fail
    refine (HW.out).mono ?_
    rintro e w2 ⟨rfl, hm, hk⟩
    have HP1 := Lib.hid (put_ok hm o x HI.out (by rw [HL1.out]; exact HO1.out.1) HO1.out.2)
    rw [← HB2.out] at HP1
    have HK := Lib.hid hk
    clear HW hm hk
    go_wp2_with fail
    refine (HP1.out).mono ?_
    rintro e w3 ⟨rfl, hm, hk⟩
    have HX3 := Lib.hid (HX.out.kept (HK.out.trans hk) HP.out.1 HP.out.2)
    have HG := Lib.hid (get_back o x HI.out (by rw [HL1.out]; exact HO1.out.1) HO1.out.2 (HB2.out ▸ hm))
    have HA := Lib.hid (all_calls hm)
    have ht2 : (textB B2).size = 1024 := by rw [textB_size, HL2.out]
    clear HP1 hm hk HX HK
    go_wp2_with (first | ((with_reducible refine (HG.out).mono ?_); rintro e w' ⟨rfl, rfl⟩) | ((with_reducible refine (HA.out).mono ?_); rintro e w' ⟨rfl, rfl⟩))
    obtain ⟨T, hT⟩ : ∃ T, T = textB B2 := ⟨_, rfl⟩
    obtain ⟨S, hS⟩ : ∃ S, S = textB s := ⟨_, rfl⟩
    rw [← hT] at ht2 ⊢
    rw [← hS] at hs2 ⊢
    have HT := Lib.hid hT
    have HS := Lib.hid hS
    obtain ⟨n, hn⟩ : ∃ n, n = s.length := ⟨_, rfl⟩
    rw [← hn] at hs1 hs2
    have HN := Lib.hid hn
    clear hT hS hn HG HA ho HO
    go_loop [72] (fun i => ∃ k : Nat, k ≤ 1024 ∧ i = .int .i64 k) (fun i => 1024 - (intOf i).toNat)
    case atStart => exact ⟨0, by omega, rfl⟩
    case round =>
      obtain ⟨k, hk, rfl⟩ := hrel
      by_cases hlt : k < 1024
      · have ho1 := HO1.out.1
        have hTk : k < T.size := by omega
        have V := keeps_val s x o k HI.out (by have := HN.out; omega) ho1 hlt
        rw [← HB1.out, ← HB2.out] at V
        by_cases hn : k < n
        · have hSk : k < S.size := by omega
          by_cases h1 : o ≤ k ∧ k < o + 8
          · have hv : (((T[k]'hTk).toNat : Int) != IntKind.u64.wrap x / 2 ^ (8 * (k - o)) % 256) = false := V.1 h1.1 h1.2 T HT.out hTk
            obtain ⟨h1, h2⟩ := h1
            clear V
            go_wp2
            go_round
            case rel => exact ⟨k + 1, by omega, by go_num⟩
            case measure => simp [intOf]; omega
          · have hv : (((T[k]'hTk).toNat : Int) != ((S[k]'hSk).toNat : Int)) = false := V.2.1 h1 (by have := HN.out; omega) T HT.out hTk S HS.out hSk
            clear V
            by_cases h2 : k < o
            · clear h1
              go_wp2
              go_round
              case rel => exact ⟨k + 1, by omega, by go_num⟩
              case measure => simp [intOf]; omega
            · have h3 : o + 8 ≤ k := by omega
              clear h1 h2
              go_wp2
              go_round
              case rel => exact ⟨k + 1, by omega, by go_num⟩
              case measure => simp [intOf]; omega
        · by_cases h1 : o ≤ k ∧ k < o + 8
          · have hv : (((T[k]'hTk).toNat : Int) != IntKind.u64.wrap x / 2 ^ (8 * (k - o)) % 256) = false := V.1 h1.1 h1.2 T HT.out hTk
            obtain ⟨h1, h2⟩ := h1
            clear V
            go_wp2
            go_round
            case rel => exact ⟨k + 1, by omega, by go_num⟩
            case measure => simp [intOf]; omega
          · have hv : (((T[k]'hTk).toNat : Int) == 0) = true := V.2.2 h1 (by have := HN.out; omega) T HT.out hTk
            clear V
            by_cases h2 : k < o
            · clear h1
              go_wp2
              go_round
              case rel => exact ⟨k + 1, by omega, by go_num⟩
              case measure => simp [intOf]; omega
            · have h3 : o + 8 ≤ k := by omega
              clear h1 h2
              go_wp2
              go_round
              case rel => exact ⟨k + 1, by omega, by go_num⟩
              case measure => simp [intOf]; omega
      · have hk2 : k = 1024 := by omega
        subst hk2
        clear hk hlt
        go_wp2
        go_ret
        exact ⟨rfl, HX3.out⟩
end Go.Proofs.Ytahnbllmgalgpaa
