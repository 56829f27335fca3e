/- Layer 7: the document's Part and Word (package rhytonref07). Condition: texts of at most 2^62 bytes. -/
import Derived.Test.YtmbcjphgjdffmaaS7B
namespace Go.Proofs.Ytmbcjphgjdffmaa
open Go.RowKit
set_option linter.unusedVariables false

set_option maxHeartbeats 4000000 in
theorem rword_calls (L : List UInt8) (hl : L.length ≤ 4611686018427387904) (i : Int) (w : World) :
    Calls Try.prog 19 #[.string (str L), .int .i64 i] w fun e w' => e = .returned (.tuple #[.string (str (wordL L i).1), .int .i64 (((wordL L i).2 : Nat) : Int)]) ∧ w = w' := by
  have H1 := Lib.hid (held_calls (str L) i)
  have hk0 := heldN_le L.length i
  rw [str_size] at H1
  unfold wordL
  obtain ⟨k0, hkk⟩ : ∃ k, k = heldN L.length i := ⟨_, rfl⟩
  rw [← hkk] at H1 hk0 ⊢
  have hk := skipN_le L k0 hk0
  obtain ⟨k, hks⟩ : ∃ k, k = skipN L k0 := ⟨_, rfl⟩
  rw [← hks] at hk ⊢
  have hn := str_size L
  obtain ⟨S, hS⟩ : ∃ S, S = str L := ⟨_, rfl⟩
  rw [← hS] at H1 hn ⊢
  have hget : ∀ i (h : i < S.size) (h2 : i < L.length), S[i] = L[i] := by subst hS; exact fun i h _ => str_get L i h
  have hext : ∀ i j, S.extract i j = str ((L.drop i).take (j - i)) := by subst hS; exact str_extract L
  have HG := Lib.hid hget
  have HE := Lib.hid hext
  have HKS := Lib.hid hks
  have hnn : (S.size : Int) ≤ 4611686018427387904 := by omega
  clear hkk hS hget hext hks
  obtain ⟨p, hp⟩ : ∃ p : UInt8 → Bool, p = blank := ⟨_, rfl⟩
  have hpe : ∀ c, p c = decide ((c.toNat : Int) ≤ 32) := fun c => by
    subst hp
    unfold blank; rw [Bool.eq_iff_iff, decide_eq_true_iff, decide_eq_true_iff]; omega
  have hat := skipN_at L k0
  rw [← HKS.out, ← hp] at hat
  rw [← hp]
  have HP := Lib.hid hpe
  have HAT := Lib.hid hat
  clear hp hpe hat HKS
  dsimp only
  go_enter Try.func19, Try.ntmps19
  go_wp2_with fail
  refine (H1.out _).mono ?_
  rintro e w1 ⟨rfl, rfl⟩
  go_wp2_with fail
  go_loop [6] (fun v => ∃ i : Nat, v = .int .i64 (i : Int) ∧ k0 ≤ i ∧ i ≤ L.length ∧ RowKit.Hid (∀ j (hj : j < L.length), k0 ≤ j → j < i → p L[j] = true)) (fun v => L.length - (intOf v).toNat)
  case atStart => exact ⟨k0, rfl, by omega, hk0, Lib.hid (fun j hj h1 h2 => by omega)⟩
  case round =>
    obtain ⟨i, rfl, hki, hil, hno⟩ := hrel
    have two : (∀ h : i < L.length, p L[i] = false) → k = i := fun h => HAT.out i hki hil hno.out h
    by_cases hlt : i < L.length
    · have hlS : i < S.size := by omega
      have hlI : (i : Int) < (S.size : Int) := by omega
      have hg := HG.out i hlS hlt
      obtain ⟨c, hcc⟩ : ∃ c, c = L[i] := ⟨_, rfl⟩
      have hcS : ((S[i]'hlS).toNat : Int) = (c.toNat : Int) := by rw [hg, hcc]
      have hpc := HP.out c
      have HCC := Lib.hid hcc
      clear hcc hg
      by_cases h : (c.toNat : Int) ≤ 32
      · rw [decide_eq_true h] at hpc
        have HPC := Lib.hid hpc
        clear hpc two
        go_wp2_with fail
        go_round
        case rel => exact ⟨i + 1, by go_num, by omega, by omega, Lib.hid fun j hj h1 h2 => by
          by_cases hji : j = i
          · subst hji; rw [← HCC.out, HPC.out]
          · exact hno.out j hj h1 (by omega)⟩
        case measure => simp [intOf]; omega
      · rw [decide_eq_false h] at hpc
        have e := two fun _ => by rw [← HCC.out, hpc]
        clear hpc two HCC
        subst e
        go_wp2_with fail
        go_loop [7] (fun v => ∃ i : Nat, v = .int .i64 (i : Int) ∧ k ≤ i ∧ i ≤ L.length ∧ RowKit.Hid (∀ j (hj : j < L.length), k ≤ j → j < i → p L[j] = false)) (fun v => L.length - (intOf v).toNat)
        case atStart => exact ⟨k, rfl, by omega, hk, Lib.hid (fun j hj h1 h2 => by omega)⟩
        case round =>
          obtain ⟨i, rfl, hki, hil, hno⟩ := hrel
          by_cases hlt : i < L.length
          · have hlS : i < S.size := by omega
            have hlI : (i : Int) < (S.size : Int) := by omega
            have hg := HG.out i hlS hlt
            obtain ⟨c, hcc⟩ : ∃ c, c = L[i] := ⟨_, rfl⟩
            have hcS : ((S[i]'hlS).toNat : Int) = (c.toNat : Int) := by rw [hg, hcc]
            have hpc := HP.out c
            have HCC := Lib.hid hcc
            clear hcc hg
            by_cases h : (c.toNat : Int) ≤ 32
            · rw [decide_eq_true h] at hpc
              have hu := upF_at p L k i hki hil hno.out (fun h => by rw [← HCC.out, hpc])
              have hv := upF_len p L k i hki hil hno.out (fun h => by rw [← HCC.out, hpc])
              have hm : ((min (i + 1) L.length : Nat) : Int) = (i : Int) + 1 := by omega
              have hx := HE.out k i
              have HU := Lib.hid (And.intro hu (And.intro hv (And.intro hm hx)))
              clear hu hv hm hx hpc
              have hkI : (k : Int) ≤ (i : Int) := by omega
              go_wp2_with fail
              go_ret2
              exact ⟨by rw [HU.out.1, HU.out.2.1, HU.out.2.2.1, ← HU.out.2.2.2]; rfl, rfl⟩
            · rw [decide_eq_false h] at hpc
              have HPC := Lib.hid hpc
              clear hpc
              go_wp2_with fail
              go_round
              case rel => exact ⟨i + 1, by go_num, by omega, by omega, Lib.hid fun j hj h1 h2 => by
                by_cases hji : j = i
                · subst hji; rw [← HCC.out, HPC.out]
                · exact hno.out j hj h1 (by omega)⟩
              case measure => simp [intOf]; omega
          · have hie : i = L.length := by omega
            have hu := upF_at p L k i hki hil hno.out (fun h => absurd h hlt)
            have hv := upF_len p L k i hki hil hno.out (fun h => absurd h hlt)
            have hlI : ¬ (i : Int) < (S.size : Int) := by omega
            have hx := HE.out k L.length
            rw [show L.length - k = i - k by omega] at hx
            have hm2 : min (i + 1) L.length = L.length := by omega
            have hkS : k ≤ S.size := by omega
            have hkI : (k : Int) ≤ (S.size : Int) := by omega
            have HU := Lib.hid (And.intro hu (And.intro hv (And.intro hm2 hx)))
            clear hu hv hm2 hx hie
            go_wp2_with fail
            go_ret2
            exact ⟨by rw [HU.out.1, HU.out.2.1, HU.out.2.2.1, ← HU.out.2.2.2]; rfl, rfl⟩
    · have hlI : ¬ (i : Int) < (S.size : Int) := by omega
      have e := two fun h => absurd h hlt
      clear two
      subst e
      go_wp2_with fail
      go_loop [7] (fun v => ∃ i : Nat, v = .int .i64 (i : Int) ∧ k ≤ i ∧ i ≤ L.length ∧ RowKit.Hid (∀ j (hj : j < L.length), k ≤ j → j < i → p L[j] = false)) (fun v => L.length - (intOf v).toNat)
      case atStart => exact ⟨k, rfl, by omega, hk, Lib.hid (fun j hj h1 h2 => by omega)⟩
      case round =>
        obtain ⟨i, rfl, hki, hil, hno⟩ := hrel
        by_cases hlt : i < L.length
        · have hlS : i < S.size := by omega
          have hlI : (i : Int) < (S.size : Int) := by omega
          have hg := HG.out i hlS hlt
          obtain ⟨c, hcc⟩ : ∃ c, c = L[i] := ⟨_, rfl⟩
          have hcS : ((S[i]'hlS).toNat : Int) = (c.toNat : Int) := by rw [hg, hcc]
          have hpc := HP.out c
          have HCC := Lib.hid hcc
          clear hcc hg
          by_cases h : (c.toNat : Int) ≤ 32
          · rw [decide_eq_true h] at hpc
            have hu := upF_at p L k i hki hil hno.out (fun h => by rw [← HCC.out, hpc])
            have hv := upF_len p L k i hki hil hno.out (fun h => by rw [← HCC.out, hpc])
            have hm : ((min (i + 1) L.length : Nat) : Int) = (i : Int) + 1 := by omega
            have hx := HE.out k i
            have HU := Lib.hid (And.intro hu (And.intro hv (And.intro hm hx)))
            clear hu hv hm hx hpc
            have hkI : (k : Int) ≤ (i : Int) := by omega
            go_wp2_with fail
            go_ret2
            exact ⟨by rw [HU.out.1, HU.out.2.1, HU.out.2.2.1, ← HU.out.2.2.2]; rfl, rfl⟩
          · rw [decide_eq_false h] at hpc
            have HPC := Lib.hid hpc
            clear hpc
            go_wp2_with fail
            go_round
            case rel => exact ⟨i + 1, by go_num, by omega, by omega, Lib.hid fun j hj h1 h2 => by
              by_cases hji : j = i
              · subst hji; rw [← HCC.out, HPC.out]
              · exact hno.out j hj h1 (by omega)⟩
            case measure => simp [intOf]; omega
        · have hie : i = L.length := by omega
          have hu := upF_at p L k i hki hil hno.out (fun h => absurd h hlt)
          have hv := upF_len p L k i hki hil hno.out (fun h => absurd h hlt)
          have hlI : ¬ (i : Int) < (S.size : Int) := by omega
          have hx := HE.out k L.length
          rw [show L.length - k = i - k by omega] at hx
          have hm2 : min (i + 1) L.length = L.length := by omega
          have hkS : k ≤ S.size := by omega
          have hkI : (k : Int) ≤ (S.size : Int) := by omega
          have HU := Lib.hid (And.intro hu (And.intro hv (And.intro hm2 hx)))
          clear hu hv hm2 hx hie
          go_wp2_with fail
          go_ret2
          exact ⟨by rw [HU.out.1, HU.out.2.1, HU.out.2.2.1, ← HU.out.2.2.2]; rfl, rfl⟩
end Go.Proofs.Ytmbcjphgjdffmaa
