/- Layer 7: Fold of package scan and of the document. Condition: texts of at most 9223372036854775807 bytes (the document's: 1000000000). -/
import Derived.Test.YtgmdagjaigbajaaScanT
import Derived.Test.YtgmdagjaigbajaaBrow
namespace Go.Proofs.Ytgmdagjaigbajaa
open Go.RowKit
set_option linter.unusedVariables false

/-- The bytes X lie in block b from 0 on, and may be written. -/
structure Bs (w : World) (b : Nat) (X : List UInt8) : Prop where
  cell : ∀ j (hj : j < X.length), w.cell? ⟨b, j, none⟩ = some (.int .u8 (X[j].toNat : Int))
  free : ∀ j, j < X.length → w.frozen? ⟨b, j, none⟩ = false
  lt : b < w.heap.size
theorem Bs.mod {w w' : World} {b : Nat} {X : List UInt8} (h : Bs w b X) (k : Mod [] w w') : Bs w' b X :=
  ⟨fun j hj => k.cell (by simp) (h.cell j hj), fun j hj => by rw [k.frozen (by simp) h.lt]; exact h.free j hj, Nat.lt_of_lt_of_le h.lt k.size⟩
theorem Bs.set {w : World} {b : Nat} {X : List UInt8} (h : Bs w b X) (i : Nat) (c : UInt8) (hi : i < X.length) : Bs (w.setCell ⟨b, i, none⟩ (.int .u8 (c.toNat : Int))) b (X.set i c) := by
  refine ⟨fun j hj => ?_, fun j hj => ?_, ?_⟩
  · by_cases hji : j = i
    · subst hji
      rw [World.cell?_setCell_same _ _ _ (by rw [h.cell j hi])]
      simp
    · rw [World.cell?_setCell_other _ _ _ _ (fun e => hji (by injection e with _ e; exact e.symm)), List.getElem_set_ne (by omega)]
      exact h.cell j (by simpa using hj)
  · rw [World.frozen?_setCell]
    exact h.free j (by simpa using hj)
  · simpa [World.setCell] using h.lt
theorem Bs.conv {w : World} {b : Nat} {X : List UInt8} (h : Bs w b X) (n cap : Nat) (hn : n = X.length) : (convert 33 9 (.slice (some ⟨b, 0, none⟩) n cap)).run Try.prog w = .ok (.string (str X)) w := by
  subst hn
  refine run_convert_bytes_back (P := Try.prog) w 33 9 5 ⟨b, 0, none⟩ cap X Try.underlying33 Try.underlying5 Try.underlying9 fun j hj => ?_
  rw [WideShapes.add_plain, Nat.zero_add]
  exact h.cell j hj
theorem bytes_new (w : World) (L : List UInt8) : ∃ cap w', (convert 9 33 (.string (str L))).run Try.prog w = .ok (.slice (some ⟨w.heap.size, 0, none⟩) L.length cap) w' ∧ Bs w' w.heap.size L ∧ Mod [] w w' := by
  have h := run_bytes_of_string (P := Try.prog) w 9 33 5 (str L) Try.underlying9 Try.underlying33 Try.underlying5
  rw [str_size] at h
  refine ⟨_, _, h, ⟨fun j hj => ?_, fun j hj => ?_, by simp⟩, (Mod.refl [] w).drew.alloc _⟩
  · have e := World.cell?_alloc_mark w.drew (bytesRow (str L) (grownCap w L.length 0 5)) 5 ((bytesRow (str L) (grownCap w L.length 0 5)).size, (bytesRow (str L) (grownCap w L.length 0 5)).size + 1) j
    refine e.trans ?_
    rw [bytesRow_at (str L) _ j (by simp [str]; exact hj)]
    simp [str]
  · have hsz : j < (bytesRow (str L) (grownCap w L.length 0 5)).size := by simp [bytesRow, str]; omega
    have hh : (w.drew.alloc (.cells (bytesRow (str L) (grownCap w L.length 0 5)) 5 ((bytesRow (str L) (grownCap w L.length 0 5)).size, (bytesRow (str L) (grownCap w L.length 0 5)).size + 1))).heap[w.heap.size]? = some _ := (MapKept.heap_alloc w.drew _).1
    simp only [World.frozen?, hh]
    simp
    omega
theorem foldL_len (L : List UInt8) : (foldL L).length = L.length := by simp [foldL]
theorem fold_set (L : List UInt8) (k : Nat) (h : k < L.length) : ((foldL L).take k ++ L.drop k).set k (foldC L[k]) = (foldL L).take (k + 1) ++ L.drop (k + 1) := by
  have h1 : ((foldL L).take k).length = k := by rw [List.length_take, foldL_len]; omega
  rw [List.set_append_right _ _ (by omega), h1, Nat.sub_self, List.drop_eq_getElem_cons h, List.set_cons_zero, List.take_succ_eq_append_getElem (by rw [foldL_len]; exact h), List.append_assoc]
  simp [foldL]
theorem fold_keep (L : List UInt8) (k : Nat) (h : k < L.length) (e : foldC L[k] = L[k]) : (foldL L).take k ++ L.drop k = (foldL L).take (k + 1) ++ L.drop (k + 1) := by
  rw [List.drop_eq_getElem_cons h, List.take_succ_eq_append_getElem (by rw [foldL_len]; exact h), List.append_assoc]
  congr 1
  simp [foldL, e]
theorem fold_at (L : List UInt8) (k : Nat) (h : k < L.length) : ((foldL L).take k ++ L.drop k)[k]? = some L[k] := by
  rw [List.getElem?_append_right (by simp; omega), List.length_take, foldL_len, Nat.min_eq_left (by omega), Nat.sub_self]
  simp [h]
theorem ret_s {a b : List UInt8} (h : a = b) : Ending.returned (.string (str a)) = .returned (.string (str b)) := by rw [h]
set_option maxHeartbeats 4000000 in
theorem fold_calls (L : List UInt8) (hl : L.length ≤ 9223372036854775807) (w : World) : Calls Try.prog 14 #[.string (str L)] w fun e w' => e = .returned (.string (str (foldL L))) ∧ Mod [] w w' := by
  obtain ⟨cap, w1, hcv, hB, hM⟩ := bytes_new w L
  obtain ⟨S, hS⟩ : ∃ S, S = str L := ⟨_, rfl⟩
  rw [← hS] at hcv ⊢
  obtain ⟨n, hn⟩ : ∃ n, n = L.length := ⟨_, rfl⟩
  rw [← hn] at hcv
  obtain ⟨b, hb⟩ : ∃ b, b = w.heap.size := ⟨_, rfl⟩
  rw [← hb] at hcv hB
  have hnl : n ≤ 9223372036854775807 := by omega
  have HB := Lib.hid hB
  have HM := Lib.hid hM
  have HN := Lib.hid hn
  have Hb := Lib.hid hb
  clear hS hB hM hn hl hb
  go_enter Try.func14, Try.ntmps14
  go_wp2_with fail
  go_loopw [10] (fun v wr => ∃ k : Nat, v = .int .i64 (k : Int) ∧ k ≤ n ∧ Bs wr b ((foldL L).take k ++ L.drop k) ∧ Mod [] w wr) (fun v _ => n - (intOf v).toNat)
  case atStart => exact ⟨0, rfl, by omega, by simpa using HB.out, HM.out⟩
  case round =>
    obtain ⟨k, rfl, hk, hb, hm⟩ := hrel
    by_cases hlt : k < n
    · have hkL : k < L.length := by rw [← HN.out]; exact hlt
      have hlI : (k : Int) < (n : Int) := by omega
      have hXl : ((foldL L).take k ++ L.drop k).length = L.length := by simp [foldL_len]; omega
      have hc := hb.cell k (by omega)
      have hf := hb.free k (by omega)
      have hat := fold_at L k hkL
      rw [List.getElem?_eq_getElem (by omega)] at hat
      rw [Option.some.inj hat] at hc
      obtain ⟨c, hcc⟩ : ∃ c, c = L[k] := ⟨_, rfl⟩
      rw [← hcc] at hc
      have hcn := c.toNat_lt
      have hfn := foldC_nat c
      have s1 := hb.set k (foldC c) (by omega)
      rw [hcc, fold_set L k hkL, ← hcc] at s1
      by_cases hcap : 65 ≤ c.toNat ∧ c.toNat ≤ 90
      · rw [if_pos hcap] at hfn
        rw [hfn] at s1
        obtain ⟨m, hm2⟩ : ∃ m, m = c.toNat := ⟨_, rfl⟩
        rw [← hm2] at hc hcn s1 hcap
        obtain ⟨q1, q2⟩ := hcap
        have hB1 := Lib.hid s1
        have hM1 := Lib.hid (hm.set (x := ⟨b, k, none⟩) (Or.inr (Nat.le_of_eq Hb.out.symm)) (.int .u8 ((m + 32 : Nat) : Int)))
        have e : ((m + 32 : Nat) : Int) = (m : Int) - 65 + 97 := by omega
        rw [e] at hB1 hM1
        clear hb hm s1 hcc hfn hm2 hat e hXl
        go_wp2_with fail
        go_roundw
        case rel => exact ⟨k + 1, by go_num, by omega, hB1.out, hM1.out⟩
        case measure => simp [intOf]; omega
      · rw [if_neg hcap] at hfn
        have s2 := hb
        rw [fold_keep L k hkL (by rw [← hcc]; exact UInt8.toNat_inj.1 hfn)] at s2
        obtain ⟨m, hm2⟩ : ∃ m, m = c.toNat := ⟨_, rfl⟩
        rw [← hm2] at hc hcn hcap
        have hB1 := Lib.hid s2
        have hM1 := Lib.hid hm
        clear hb hm s1 s2 hcc hfn hm2 hat hXl
        by_cases q1 : 65 ≤ m
        · have q2 : ¬ m ≤ 90 := fun h => hcap ⟨q1, h⟩
          clear hcap
          go_wp2_with fail
          go_roundw
          case rel => exact ⟨k + 1, by go_num, by omega, hB1.out, hM1.out⟩
          case measure => simp [intOf]; omega
        · clear hcap
          go_wp2_with fail
          go_roundw
          case rel => exact ⟨k + 1, by go_num, by omega, hB1.out, hM1.out⟩
          case measure => simp [intOf]; omega
    · have hlI : ¬ (k : Int) < (n : Int) := by omega
      have hkn : k = L.length := by rw [← HN.out]; omega
      rw [hkn, List.drop_length, List.append_nil, List.take_of_length_le (by rw [foldL_len]; exact Nat.le_refl _)] at hb
      have hcv2 := hb.conv n cap (by rw [foldL_len, HN.out])
      have HM2 := Lib.hid hm
      clear hb hm hkn hcv
      go_wp2_with fail
      go_ret
      exact ⟨rfl, HM2.out⟩
set_option maxHeartbeats 4000000 in
theorem rfold_calls (L : List UInt8) (hl : L.length ≤ 1000000000) (w : World) : Calls Try.prog 18 #[.string (str L)] w fun e w' => e = .returned (.string (str (foldL L))) ∧ Mod [] w w' := by
  have hs := str_size L
  obtain ⟨S, hS⟩ : ∃ S, S = str L := ⟨_, rfl⟩
  rw [← hS] at hs ⊢
  have hget : ∀ i (h : i < S.size) (h2 : i < L.length), S[i] = L[i] := by subst hS; exact fun i h _ => str_get L i h
  have HG := Lib.hid hget
  have hnn : (S.size : Int) ≤ 1000000000 := by omega
  clear hS hget
  go_enter Try.func18, Try.ntmps18
  go_wp2_with fail
  go_loopw [3, 4] (fun v i wr => ∃ k : Nat, i = .int .i64 (k : Int) ∧ k ≤ L.length ∧ Br wr w.heap.size v ((foldL L).take k) ∧ Mod [] w wr) (fun _ i _ => L.length - (intOf i).toNat)
  case atStart => exact ⟨0, rfl, by omega, by simpa using Br.nil w w.heap.size, Mod.refl _ _⟩
  case round =>
    obtain ⟨k, rfl, hk, hb, hm⟩ := hrel
    have hwr := hm.size
    by_cases hlt : k < L.length
    · have hlS : k < S.size := by omega
      have hlI : (k : Int) < (S.size : Int) := by omega
      have hcS : ((S[k]'hlS).toNat : Int) = (L[k].toNat : Int) := by rw [HG.out k hlS hlt]
      have hstep : (foldL L).take k ++ [foldC L[k]] = (foldL L).take (k + 1) := by
        rw [List.take_succ_eq_append_getElem (by rw [foldL_len]; exact hlt)]
        simp [foldL]
      obtain ⟨c, hcc⟩ : ∃ c, c = L[k] := ⟨_, rfl⟩
      rw [← hcc] at hcS hstep
      have hcn := c.toNat_lt
      have hfn := foldC_nat c
      have hXl : ((foldL L).take k).length ≤ 1000000000 := by simp [foldL_len]; omega
      obtain ⟨X, hX⟩ : ∃ X, X = (foldL L).take k := ⟨_, rfl⟩
      rw [← hX] at hb hXl hstep
      obtain ⟨d, hd⟩ : ∃ d, d = foldC c := ⟨_, rfl⟩
      rw [← hd] at hstep hfn
      have HS := Lib.hid hstep
      obtain ⟨m, hm2⟩ : ∃ m, m = c.toNat := ⟨_, rfl⟩
      rw [← hm2] at hfn hcS hcn
      obtain ⟨y, hy⟩ : ∃ y, y = d.toNat := ⟨_, rfl⟩
      rw [← hy] at hfn
      have HB := Lib.hid (hb.far ((Mod.refl [] wr).alloc (.cells #[.int .u8 (y : Int)] 5)))
      have HM := Lib.hid (hm.alloc (.cells #[.int .u8 (y : Int)] 5))
      have HC := Lib.hid (show (wr.alloc (.cells #[.int .u8 (y : Int)] 5)).cell? ((⟨wr.heap.size, 0, none⟩ : Addr).add 0) = some (.int .u8 (d.toNat : Int)) by rw [← hy]; exact one_at _ _ _)
      have HW := Lib.hid (show w.heap.size ≤ (wr.alloc (.cells #[.int .u8 (y : Int)] 5)).heap.size from HM.out.size)
      clear hb hm hcc hstep hX hd hm2 hy hwr
      by_cases hcap : 65 ≤ m ∧ m ≤ 90
      · rw [if_pos hcap] at hfn
        have e : (y : Int) = (m : Int) + 32 := by omega
        rw [e] at HB HM HC HW
        obtain ⟨q1, q2⟩ := hcap
        clear hfn e
        go_wp2_with (refine wpList_app1 rfl (.tmp 23) (.tmp 25) rfl HB.out HW.out hXl _ 1 d HC.out rfl rfl ?_)
        intro v' w' b1 b2
        have B1 := Lib.hid b1
        have M1 := Lib.hid (HM.out.below_of b2 (Nat.le_refl _))
        clear b1 b2
        go_wp2_with fail
        go_roundw
        case rel => exact ⟨k + 1, by go_num, by omega, by rw [← HS.out]; exact B1.out, M1.out⟩
        case measure => simp [intOf]; omega
      · rw [if_neg hcap] at hfn
        subst hfn
        by_cases q1 : 65 ≤ y
        · have q2 : ¬ y ≤ 90 := fun h => hcap ⟨q1, h⟩
          clear hcap
          go_wp2_with (refine wpList_app1 rfl (.tmp 23) (.tmp 25) rfl HB.out HW.out hXl _ 1 d HC.out rfl rfl ?_)
          intro v' w' b1 b2
          have B1 := Lib.hid b1
          have M1 := Lib.hid (HM.out.below_of b2 (Nat.le_refl _))
          clear b1 b2
          go_wp2_with fail
          go_roundw
          case rel => exact ⟨k + 1, by go_num, by omega, by rw [← HS.out]; exact B1.out, M1.out⟩
          case measure => simp [intOf]; omega
        · clear hcap
          go_wp2_with (refine wpList_app1 rfl (.tmp 23) (.tmp 25) rfl HB.out HW.out hXl _ 1 d HC.out rfl rfl ?_)
          intro v' w' b1 b2
          have B1 := Lib.hid b1
          have M1 := Lib.hid (HM.out.below_of b2 (Nat.le_refl _))
          clear b1 b2
          go_wp2_with fail
          go_roundw
          case rel => exact ⟨k + 1, by go_num, by omega, by rw [← HS.out]; exact B1.out, M1.out⟩
          case measure => simp [intOf]; omega
    · have hlI : ¬ (k : Int) < (S.size : Int) := by omega
      rw [List.take_of_length_le (by rw [foldL_len]; omega)] at hb
      have hcv := hb.conv
      have HM := Lib.hid hm
      clear hb hm hwr
      go_wp2_with fail
      go_ret
      exact ⟨rfl, HM.out⟩
end Go.Proofs.Ytgmdagjaigbajaa
