/- Layer 7: Part and Word of package scan. Condition: texts of at most 2^62 bytes. -/
import Derived.Test.YtgmdagjaigbajaaS7A
namespace Go.Proofs.Ytgmdagjaigbajaa
open Go.RowKit
set_option linter.unusedVariables false

/-- Part of a text from a place on. -/
def partL (L : List UInt8) (i : Int) (d : UInt8) : List UInt8 × Nat := (upF (fun c => c == d) L (heldN L.length i), upN (fun c => c == d) L (heldN L.length i))
def wordL (L : List UInt8) (i : Int) : List UInt8 × Nat := (upF blank L (skipN L (heldN L.length i)), upN blank L (skipN L (heldN L.length i)))
theorem skipN_le (L : List UInt8) (k : Nat) (h : k ≤ L.length) : skipN L k ≤ L.length := by
  unfold skipN
  have := (List.takeWhile_sublist (l := L.drop k) blank).length_le
  simp at this
  omega
set_option maxHeartbeats 2000000 in
theorem word_calls (L : List UInt8) (hl : L.length ≤ 4611686018427387904) (i : Int) (w : World) :
    Calls Try.prog 24 #[.string (str L), .int .i64 i] w fun e w' => e = .returned (.tuple #[.string (str (wordL L i).1), .int .i64 (((wordL L i).2 : Nat) : Int)]) ∧ Mod [] w w' := by
  have H1 := Lib.hid (within_calls (str L) i)
  have hk0 := heldN_le L.length i
  have H2 := Lib.hid (upTo_calls blank 26 #[] L (skipN L (heldN L.length i)) (skipN_le _ _ hk0) hl w (fun c => rfl) (fun c => blank_calls c w))
  rw [str_size] at H1
  unfold wordL
  obtain ⟨k, hk⟩ : ∃ k, k = heldN L.length i := ⟨_, rfl⟩
  rw [← hk] at H1 H2 hk0 ⊢
  have hn := str_size L
  obtain ⟨S, hS⟩ : ∃ S, S = str L := ⟨_, rfl⟩
  rw [← hS] at hn H1 H2 ⊢
  have hget : ∀ i (h : i < S.size) (h2 : i < L.length), S[i] = L[i] := by subst hS; exact fun i h _ => str_get L i h
  have HG := Lib.hid hget
  have hnn : (S.size : Int) ≤ 4611686018427387904 := by omega
  clear hk hS hget
  dsimp only
  have HM := Mod.refl [] w
  have HB := Lib.hid (fun c => blank_calls c w)
  go_enter Try.func24, Try.ntmps24
  go_wp2_with fail
  refine (H1.out _).mono ?_
  rintro e w1 ⟨rfl, rfl⟩
  go_wp2_with fail
  go_loop [6] (fun v => ∃ i : Nat, v = .int .i64 (i : Int) ∧ k ≤ i ∧ i ≤ L.length ∧ RowKit.Hid (∀ j (hj : j < L.length), k ≤ j → j < i → blank L[j] = true)) (fun v => L.length - (intOf v).toNat)
  case atStart => exact ⟨k, rfl, by omega, hk0, Lib.hid (fun j hj h1 h2 => by omega)⟩
  case round =>
    obtain ⟨i, rfl, hki, hil, hno⟩ := hrel
    by_cases hlt : i < L.length
    · have hlS : i < S.size := by omega
      have hlI : (i : Int) < (S.size : Int) := by omega
      have hg := HG.out i hlS hlt
      obtain ⟨c, hcc⟩ : ∃ c, c = L[i] := ⟨_, rfl⟩
      have hcS : ((S[i]'hlS).toNat : Int) = (c.toNat : Int) := by rw [hg, hcc]
      have hk' := HB.out c
      obtain ⟨pc, hpc⟩ : ∃ b, b = blank c := ⟨_, rfl⟩
      rw [← hpc] at hk'
      have HK := Lib.hid hk'
      have HPC := Lib.hid hpc
      have HCC := Lib.hid hcc
      clear hk' hpc hcc hg
      go_wp2_with fail
      refine (HK.out).mono ?_
      rintro e w1 ⟨rfl, rfl⟩
      cases pc with
      | true =>
        go_wp2_with fail
        go_round
        case rel => exact ⟨i + 1, by go_num, by omega, by omega, Lib.hid fun j hj h1 h2 => by
          by_cases hji : j = i
          · subst hji; rw [← HCC.out, ← HPC.out]
          · exact hno.out j hj h1 (by omega)⟩
        case measure => simp [intOf]; omega
      | false =>
        have hs := skipN_at L k i hki hil hno.out (fun h => by rw [← HCC.out, ← HPC.out])
        have H3 := H2.out
        rw [hs] at H3
        have H4 := Lib.hid H3
        have HS := Lib.hid hs
        clear H3 hs
        go_wp2_with fail
        refine (H4.out).mono ?_
        rintro e w1 ⟨rfl, rfl⟩
        go_wp2_with fail
        go_ret2
        exact ⟨by rw [HS.out]; rfl, HM⟩
    · have hlI : ¬ (i : Int) < (S.size : Int) := by omega
      have hs := skipN_at L k i hki hil hno.out (fun h => absurd h hlt)
      have H3 := H2.out
      rw [hs] at H3
      have H4 := Lib.hid H3
      have HS := Lib.hid hs
      clear H3 hs
      go_wp2_with fail
      refine (H4.out).mono ?_
      rintro e w1 ⟨rfl, rfl⟩
      go_wp2_with fail
      go_ret2
      exact ⟨by rw [HS.out]; rfl, HM⟩
end Go.Proofs.Ytgmdagjaigbajaa
