/- Layer 7 (packages scan, rhytonref07): places of a text; what is ahead of the next byte of a kind. Condition: texts of at most 2^62 bytes. -/
import Derived.Test.YtgmdagjaigbajaaS6A
import Derived.Test.YtgmdagjaigbajaaText
namespace Go.Proofs.Ytgmdagjaigbajaa
open Go.RowKit
set_option linter.unusedVariables false

theorem within_calls (S : ByteArray) (i : Int) (w : World) : Calls Try.prog 25 #[.string S, .int .i64 i] w fun e w' => e = .returned (.int .i64 ((heldN S.size i : Nat) : Int)) ∧ w = w' := by
  have e : ((heldN S.size i : Nat) : Int) = min (max i 0) (S.size : Int) := by unfold heldN; omega
  rw [e]
  go_enter Try.func25, Try.ntmps25
  go_wp2
  all_goals
    go_ret
    exact ⟨ret_i64 (by omega), rfl⟩
theorem blank_calls (c : UInt8) (w : World) : Calls Try.prog 26 #[.int .u8 (c.toNat : Int)] w fun e w' => e = .returned (.bool (blank c)) ∧ w = w' := by
  have e : blank c = decide ((c.toNat : Int) ≤ 32) := by unfold blank; rw [Bool.eq_iff_iff, decide_eq_true_iff, decide_eq_true_iff]; omega
  rw [e]
  go_enter Try.func26, Try.ntmps26
  go_wp2
  go_ret
  exact ⟨rfl, rfl⟩
/-- What lies ahead of the next byte that a function tells. -/
theorem upTo_calls (p : UInt8 → Bool) (f : FuncId) (q : Array Value) (L : List UInt8) (k : Nat) (hk : k ≤ L.length) (hl : L.length ≤ 4611686018427387904) (w : World)
    (hrun : ∀ c : UInt8, (callFunc f (#[.int .u8 (c.toNat : Int)] ++ q)).run Try.prog w = .ok (.enter f (#[.int .u8 (c.toNat : Int)] ++ q)) w)
    (hc : ∀ c : UInt8, Calls Try.prog f (#[.int .u8 (c.toNat : Int)] ++ q) w fun e w' => e = .returned (.bool (p c)) ∧ w = w') :
    Calls Try.prog 27 #[.string (str L), .int .i64 (k : Int), .func (.func f) #[] q] w fun e w' => e = .returned (.tuple #[.string (str (upF p L k)), .int .i64 ((upN p L k : Nat) : Int)]) ∧ w = w' := by
  have hn := str_size L
  obtain ⟨S, hS⟩ : ∃ S, S = str L := ⟨_, rfl⟩
  rw [← hS] at hn ⊢
  have hget : ∀ i (h : i < S.size) (h2 : i < L.length), S[i] = L[i] := by subst hS; exact fun i h _ => str_get L i h
  have hext : ∀ i j, S.extract i j = str ((L.drop i).take (j - i)) := by subst hS; exact str_extract L
  have HG := Lib.hid hget
  have HE := Lib.hid hext
  have hnn : (S.size : Int) ≤ 4611686018427387904 := by omega
  clear hS hget hext
  have HC := Lib.hid hc
  clear hc
  go_enter Try.func27, Try.ntmps27
  go_wp2
  go_loop [8] (fun v => ∃ i : Nat, v = .int .i64 (i : Int) ∧ k ≤ i ∧ i ≤ L.length ∧ RowKit.Hid (∀ j (hj : j < L.length), k ≤ j → j < i → p L[j] = false)) (fun v => L.length - (intOf v).toNat)
  case atStart => exact ⟨k, rfl, by omega, hk, Lib.hid (fun j hj h1 h2 => by omega)⟩
  case round =>
    obtain ⟨i, rfl, hki, hil, hno⟩ := hrel
    by_cases hlt : i < L.length
    · have hlS : i < S.size := by omega
      have hlI : (i : Int) < (S.size : Int) := by omega
      have hg := HG.out i hlS hlt
      obtain ⟨c, hcc⟩ : ∃ c, c = L[i] := ⟨_, rfl⟩
      have hcS : ((S[i]'hlS).toNat : Int) = (c.toNat : Int) := by rw [hg, hcc]
      have hr := hrun c
      have hk' := HC.out c
      obtain ⟨pc, hpc⟩ : ∃ b, b = p c := ⟨_, rfl⟩
      rw [← hpc] at hk'
      have HK := Lib.hid hk'
      have HPC := Lib.hid hpc
      have HCC := Lib.hid hcc
      clear hk' hpc hcc hg
      go_wp2_with fail
      refine (HK.out).mono ?_
      rintro e w1 ⟨rfl, rfl⟩
      cases pc with
      | true =>
        have hu := upF_at p L k i hki hil hno.out (fun h => by rw [← HCC.out, ← HPC.out])
        have hv := upF_len p L k i hki hil hno.out (fun h => by rw [← HCC.out, ← HPC.out])
        have hm : ((min (i + 1) L.length : Nat) : Int) = (i : Int) + 1 := by omega
        have hx := HE.out k i
        have HU := Lib.hid (And.intro hu (And.intro hv (And.intro hm hx)))
        clear hu hv hm hx
        have hkI : (k : Int) ≤ (i : Int) := by omega
        go_wp2_with fail
        go_ret2
        exact ⟨by rw [HU.out.1, HU.out.2.1, HU.out.2.2.1, ← HU.out.2.2.2]; rfl, rfl⟩
      | false =>
        go_wp2_with fail
        go_round
        case rel => exact ⟨i + 1, by go_num, by omega, by omega, Lib.hid fun j hj h1 h2 => by
          by_cases hji : j = i
          · subst hji; rw [← HCC.out, ← HPC.out]
          · exact hno.out j hj h1 (by omega)⟩
        case measure => simp [intOf]; omega
    · have hie : i = L.length := by omega
      have hu := upF_at p L k i hki hil hno.out (fun h => absurd h hlt)
      have hv := upF_len p L k i hki hil hno.out (fun h => absurd h hlt)
      have hlI : ¬ (i : Int) < (S.size : Int) := by omega
      have hx := HE.out k L.length
      rw [show L.length - k = i - k by omega] at hx
      have hm2 : min (i + 1) L.length = L.length := by omega
      have hkS : k ≤ S.size := by omega
      have hkI : (k : Int) ≤ (S.size : Int) := by omega
      have HU := Lib.hid (And.intro hu (And.intro hv (And.intro hm2 hx)))
      clear hu hv hm2 hx
      go_wp2_with fail
      go_ret2
      exact ⟨by rw [HU.out.1, HU.out.2.1, HU.out.2.2.1, ← HU.out.2.2.2]; rfl, rfl⟩
end Go.Proofs.Ytgmdagjaigbajaa
