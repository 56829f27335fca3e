/- Layer 13: PrimTells's pieces: a text is noted; blanks; rows of numbers that came in. Condition: the listed variables hold what they hold. -/
import Derived.Test.YtegcecpmdgljpaaGreatDoorVK
namespace Go.Proofs.YtegcecpmdgljpaaGreatDoor
open Go.RowKit
set_option linter.unusedVariables false

theorem say_cap (X S : List UInt8) : sayL (X.take 4000) (str S) = (X ++ S).take 4000 := by
  unfold sayL
  rw [str_list, List.take_append, List.length_take]
  congr 2
  omega
/-- Numbers of 16 bits that came in. -/
def LiesU (w : World) (A : Option Addr) (l : List Int) : Prop := ∀ i (hi : i < l.length), ∃ x, A = some x ∧ w.cell? (x.add i) = some (.int .u16 l[i])
theorem LiesU.mod {w w' : World} {A : Option Addr} {l : List Int} (h : LiesU w A l) (k : Mod [] w w') : LiesU w' A l := fun i hi => by
  obtain ⟨x, e, hc⟩ := h i hi
  exact ⟨x, e, k.cell (by simp) hc⟩
theorem RowIn.u16s {w : World} {a : Option Addr} {len cap : Nat} {zs : List Int} (h : RowIn .u16 w a len cap zs) (q : Nat) (hq : q ≤ len) : ∃ l : List Int, l.length = q ∧ LiesU w a l ∧ ∀ n ∈ l, 0 ≤ n ∧ n ≤ 65535 := by
  rcases h with ⟨_, h1, h2, _⟩ | ⟨x, hx, h1, h2, h3, h4, h5⟩
  · exact ⟨[], by simp; omega, fun i hi => absurd hi (by simp), by simp⟩
  · refine ⟨zs.take q, by simp; omega, fun i hi => ⟨x, hx, ?_⟩, fun n hn => by have := bounds_u16 (h5 n (List.mem_of_mem_take hn)); omega⟩
    have hz : i < zs.length := by simp at hi; omega
    rw [h4 i hz]
    simp [List.getD, List.getElem?_eq_getElem hz]
theorem note_of {w : World} {a : Ad} {T : List Nat} {C : List Int} {μ : Mu} (h : Stt w a T C μ) (hl : μ.B.length = 1024) (S : List UInt8) (hS : S.length ≤ 300) :
    Calls Tryz.prog 30 #[Pt a.s, .string (str S)] w fun e w' => e = .returned (.tuple #[.int .i64 768, .int .i64 ((min S.length 256 : Nat) : Int)]) ∧ Tn T T w w' ∧ Stt w' a T C (muP μ 768 (S.take 256)) := by
  have HM := Lib.hid (mem_of h)
  have hz := size_calls h.mm
  rw [hl] at hz
  have HZ := Lib.hid hz
  obtain ⟨q, hq⟩ : ∃ q, q = min S.length 256 := ⟨_, rfl⟩
  have hw := write_ok h.mm 768 (str (S.take 256)) (by rw [str_size, hl]; simp; omega)
  rw [str_list] at hw
  have HW := Lib.hid hw
  have HH := Lib.hid h
  have hsz := str_size S
  have hext : (str S).extract 0 q = str (S.take 256) := by
    rw [str_extract, List.drop_zero, Nat.sub_zero, hq]
    congr 1
    by_cases h2 : S.length ≤ 256
    · rw [Nat.min_eq_left h2, List.take_of_length_le (Nat.le_refl _), List.take_of_length_le h2]
    · rw [Nat.min_eq_right (by omega)]
  have hsz2 : ((str (S.take 256)).size : Int) = (q : Int) := by rw [str_size, hq]; simp; omega
  have hq2 : q ≤ (str S).size := by omega
  rw [← hq]
  obtain ⟨X, hX⟩ : ∃ X, X = str S := ⟨_, rfl⟩
  obtain ⟨Y, hY⟩ : ∃ Y, Y = str (S.take 256) := ⟨_, rfl⟩
  rw [← hX] at hsz hext hq2 ⊢
  rw [← hY] at hext hsz2 HW
  have hX2 : X.size ≤ 300 := by omega
  have hmin : min (X.size : Int) 256 = (q : Int) := by omega
  have hq3 : q ≤ 256 := by omega
  clear h hz hw hX hY hq hsz hS
  go_enter Tryz.func30, Tryz.ntmps30
  go_wp2_with (first | ((with_reducible refine (HM.out).mono ?_); rintro e w2 ⟨rfl, rfl⟩) | ((with_reducible refine (HZ.out).mono ?_); rintro e w2 ⟨rfl, rfl⟩))
  refine (HW.out).mono ?_
  rintro e w2 ⟨rfl, hmm, hk⟩
  go_wp2
  go_ret2
  obtain ⟨tn, h2⟩ := HH.out.mt hmm hk.mod
  exact ⟨rfl, tn, h2⟩
theorem Lv.note {w0 w : World} {a : Ad} {K : List (Nat × Option Obj)} {C : List Int} {μ : Mu} (h : Lv w0 w a K C μ) (hl : μ.B.length = 1024) (S : List UInt8) (hS : S.length ≤ 300) :
    Calls Tryz.prog 30 #[Pt a.s, .string (str S)] w fun e w' => e = .returned (.tuple #[.int .i64 768, .int .i64 ((min S.length 256 : Nat) : Int)]) ∧ Lv w0 w' a K C (muP μ 768 (S.take 256)) := by
  obtain ⟨T, h, m⟩ := h
  exact (note_of h hl S hS).mono fun e w' ⟨e1, tn, h2⟩ => ⟨e1, .step m tn h2⟩
/-- A block of bytes, its first j blanks, the others 0. -/
structure Bl (w0 w : World) (b k j : Nat) : Prop where
  m : Mod [] w0 w
  n : w0.heap.size ≤ b
  f : ∀ i, w.frozen? ⟨b, i, none⟩ = false
  c : ∀ i, i < k → w.cell? ⟨b, i, none⟩ = some (.int .u8 (if i < j then 32 else 0))
theorem Bl.set {w0 w : World} {b k j : Nat} (h : Bl w0 w b k j) (hj : j < k) : Bl w0 (w.setCell ⟨b, j, none⟩ (.int .u8 32)) b k (j + 1) := by
  refine ⟨h.m.then ((Mod.refl [b] w).set (x := ⟨b, j, none⟩) (by simp) _) (by simp; exact h.n), h.n, fun i => by rw [World.frozen?_setCell]; exact h.f i, fun i hi => ?_⟩
  by_cases e : i = j
  · subst e
    rw [if_pos (by omega)]
    exact World.cell?_setCell_same _ _ _ (h := h.c i hi)
  · rw [cell_other (h.c i hi) (by simpa using Ne.symm e)]
    congr 2
    by_cases h1 : i < j
    · rw [if_pos h1, if_pos (by omega)]
    · rw [if_neg h1, if_neg (by omega)]
set_option maxHeartbeats 1000000 in
set_option maxRecDepth 100000 in
theorem fill_calls (n : Nat) (hn : n ≤ 65535) (w : World) :
    Calls Tryz.prog 29 #[.int .i64 (n : Int)] w fun e w' => ∃ b, e = .returned (.slice (some ⟨b, 0, none⟩) (min n 4000) (min n 4000)) ∧ Bl w w' b (min n 4000) (min n 4000) := by
  obtain ⟨k, hk⟩ : ∃ k, k = min n 4000 := ⟨_, rfl⟩
  have hm : min (n : Int) 4000 = (k : Int) := by omega
  rw [← hk]
  have hk4 : k ≤ 4000 := by omega
  have hmk := make_zeros w k (by omega)
  have h0 : Bl w (w.alloc (.cells (Array.replicate k (.int .u8 0)) 5)) w.heap.size k 0 := by
    have hb0 := (MapKept.heap_alloc w (.cells (Array.replicate k (.int .u8 0)) 5)).1
    refine ⟨far_alloc _ _, Nat.le_refl _, fun i => ?_, fun i hi => ?_⟩
    · simp only [World.frozen?, hb0]; simp
    · simp only [World.cell?, hb0]; simp [hi]
  obtain ⟨W1, hW1⟩ : ∃ W, W = w.alloc (.cells (Array.replicate k (.int .u8 0)) 5) := ⟨_, rfl⟩
  rw [← hW1] at hmk h0
  have H0 := Lib.hid h0
  clear hW1 h0 hk hn
  go_enter Tryz.func29, Tryz.ntmps29
  go_wp2
  go_loopw [10] (fun i wr => ∃ j : Nat, j ≤ k ∧ i = .int .i64 (j : Int) ∧ RowKit.Hid (Bl w wr w.heap.size k j)) (fun i _ => k - (intOf i).toNat)
  case atStart => exact ⟨0, by omega, rfl, H0⟩
  case round =>
    obtain ⟨j, hj, rfl, HJ⟩ := hrel
    clear H0
    by_cases hlt : j < k
    · have hc := HJ.out.c j hlt
      have hf := HJ.out.f j
      rw [if_neg (by omega)] at hc
      have HN := Lib.hid (HJ.out.set hlt)
      have h1 : (0 : Int) ≤ (j : Int) := by omega
      have h2 : (j : Int) < (k : Int) := by omega
      have h3 : (k : Int) ≤ 4000 := by omega
      clear HJ
      go_wp2
      go_roundw
      case rel => exact ⟨j + 1, by omega, by go_num, HN⟩
      case measure => simp [intOf]; omega
    · obtain rfl : j = k := by omega
      go_wp2
      go_ret
      exact ⟨_, rfl, HJ.out⟩
theorem Bl.conv {w0 w : World} {b k : Nat} (h : Bl w0 w b k k) : (convert 59 9 (.slice (some ⟨b, 0, none⟩) k k)).run Tryz.prog w = .ok (.string (str (List.replicate k 32))) w := by
  have := run_convert_bytes_back (P := Tryz.prog) w 59 9 5 ⟨b, 0, none⟩ k (List.replicate k 32) Tryz.underlying59 Tryz.underlying5 Tryz.underlying9 fun j hj => by
    have hj' : j < k := by simpa using hj
    rw [WideShapes.add_plain, Nat.zero_add, h.c j hj', if_pos hj', List.getElem_replicate]
    rfl
  rw [List.length_replicate] at this
  exact this
end Go.Proofs.YtegcecpmdgljpaaGreatDoor
