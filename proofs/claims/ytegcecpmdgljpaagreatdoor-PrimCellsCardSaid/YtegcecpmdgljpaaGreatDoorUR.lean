/- Layer 13: what is told: a letter, numbers, blanks, parts of the memory, the whole stack. Condition: cells are cells. -/
import Derived.Test.YtegcecpmdgljpaaGreatDoorMGW
import Derived.Test.YtegcecpmdgljpaaGreatDoorMGD
import Derived.Test.YtegcecpmdgljpaaGreatDoorShelfBits
import Derived.Laws.Concat
namespace Go.Proofs.YtegcecpmdgljpaaGreatDoor
open Go.RowKit Ieee
set_option linter.unusedVariables false

section
variable {W : World} {a : Ad} {T : List Nat} {R : List Int} {μ : Mu}
theorem saym_calls (S : ByteArray) (hS : S.size ≤ 9223372036854775807) (h : Stt W a T R μ) : Calls Tryz.prog 155 #[Pt a.s, .string S] W (Acted a T W ⟨[], 0, R, { μ with O := sayL μ.O S }⟩) := by
  have HC := Lib.hid (say_of h S hS)
  clear h
  go_enter Tryz.func155, Tryz.ntmps155
  go_wp2_with fail
  refine (HC.out).mono ?_
  rintro e' w2 ⟨rfl, T', tn, h2⟩
  go_wp2
  go_ret2
  exact ⟨none, 0, 0, T', rfl, rfl, Sl.nil _ _, tn, h2⟩
theorem chr_calls (x : Int) (w : World) : Rt w 156 #[.int .i64 x] (.string (str [bt x])) := by
  intro W hW
  have hbt := bt_is x
  have hcv : (convert 59 9 (.slice (some ⟨W.heap.size, 0, none⟩) 1 1)).run Tryz.prog (W.alloc (.cells #[.int .u8 ((bt x).toNat : Int)] 5)) = .ok (.string (str [bt x])) (W.alloc (.cells #[.int .u8 ((bt x).toNat : Int)] 5)) := by
    refine run_convert_bytes_back (P := Tryz.prog) _ 59 9 5 ⟨W.heap.size, 0, none⟩ 1 [bt x] Tryz.underlying59 Tryz.underlying5 Tryz.underlying9 fun j hj => ?_
    obtain rfl : j = 0 := by simp at hj; omega
    rw [WideShapes.add_plain, Nat.zero_add]
    exact cell_new W _ _
  have HW := Lib.hid (hW.far (far_alloc W (.cells #[.int .u8 ((bt x).toNat : Int)] 5)))
  clear hW
  go_enter Tryz.func156, Tryz.ntmps156
  go_wp2
  go_ret
  exact ⟨rfl, HW.out⟩
def blanksN (x : Int) : Nat := (min (max x 0) 4000).toNat
theorem repeat_sp (n : Nat) : Lib.repeatL [32] n = List.replicate n 32 := by
  induction n with
  | zero => rfl
  | succ n ih => show [32] ++ Lib.repeatL [32] n = _; rw [ih]; rfl
theorem blanks_calls (x : Int) (w : World) : Rt w 167 #[.int .i64 x] (.string (str (List.replicate (blanksN x) 32))) := by
  intro W hW
  have hl : blanksN x ≤ 4000 := by unfold blanksN; omega
  have HR := Lib.hid (Tryz.strings_Repeat ⟨#[32]⟩ (blanksN x) W (by omega) (by have : (⟨#[32]⟩ : ByteArray).size = 1 := rfl; rw [this]; omega))
  rw [show (⟨#[32]⟩ : ByteArray).data.toList = [32] from rfl, repeat_sp] at HR
  have e1 : ((blanksN x : Nat) : Int) = min (max x 0) 4000 := by unfold blanksN; omega
  have HW := Lib.hid hW
  obtain ⟨S, hS⟩ : ∃ S, S = str (List.replicate (blanksN x) 32) := ⟨_, rfl⟩
  rw [show (⟨(List.replicate (blanksN x) 32).toArray⟩ : ByteArray) = S from hS.symm] at HR
  rw [← hS]
  rw [e1] at HR
  clear hS hW hl e1
  by_cases h0 : x ≤ 0
  · rw [show min (max x 0) 4000 = 0 by omega] at HR
    have m1 : max x 0 = 0 := by omega
    have m2 : min (0 : Int) 4000 = 0 := by omega
    go_enter Tryz.func167, Tryz.ntmps167
    go_wp2_with (first | ((with_reducible refine (HR.out).mono ?_); rintro e w2 ⟨rfl, hx⟩) | fail)
    go_ret
    exact ⟨rfl, HW.out.far (Mod.of_below hx)⟩
  · by_cases h1 : x ≤ 4000
    · rw [show min (max x 0) 4000 = x by omega] at HR
      have m1 : max x 0 = x := by omega
      have m2 : min x 4000 = x := by omega
      go_enter Tryz.func167, Tryz.ntmps167
      go_wp2_with (first | ((with_reducible refine (HR.out).mono ?_); rintro e w2 ⟨rfl, hx⟩) | fail)
      go_ret
      exact ⟨rfl, HW.out.far (Mod.of_below hx)⟩
    · rw [show min (max x 0) 4000 = 4000 by omega] at HR
      have m1 : max x 0 = x := by omega
      have m2 : min x 4000 = 4000 := by omega
      go_enter Tryz.func167, Tryz.ntmps167
      go_wp2_with (first | ((with_reducible refine (HR.out).mono ?_); rintro e w2 ⟨rfl, hx⟩) | fail)
      go_ret
      exact ⟨rfl, HW.out.far (Mod.of_below hx)⟩
theorem stored_err {x y e : Int} {S : ByteArray} (H : MT 17 [.int .i64 x, .int .i64 y] (.tuple #[.string S, .int .i64 e]) μ.B μ.h μ.B μ.h) (he : e ≠ 0) (h : Stt W a T R μ) :
    Calls Tryz.prog 169 #[Pt a.s, .int .i64 x, .int .i64 y] W (Acted a T W ⟨[], e, R, μ⟩) := by
  obtain ⟨q1, q2⟩ := q_ne he
  have s1 := h.c1
  have HC := Lib.hid (H W a.m a.q h.mm)
  have HH := Lib.hid h
  clear H h he
  go_enter Tryz.func169, Tryz.ntmps169
  go_wp2_with fail
  refine (HC.out).mono ?_
  rintro e' w2 ⟨rfl, hmm, hm2⟩
  go_wp2
  go_ret2
  obtain ⟨tn, h2⟩ := HH.out.mt hmm hm2
  exact ⟨none, 0, 0, T, rfl, rfl, Sl.nil _ _, tn, h2⟩
theorem stored_ok {x y : Int} {S : ByteArray} (H : MT 17 [.int .i64 x, .int .i64 y] (.tuple #[.string S, .int .i64 0]) μ.B μ.h μ.B μ.h) (hS : S.size ≤ 9223372036854775807) (h : Stt W a T R μ) :
    Calls Tryz.prog 169 #[Pt a.s, .int .i64 x, .int .i64 y] W (Acted a T W ⟨[], 0, R, { μ with O := sayL μ.O S }⟩) := by
  have s1 := h.c1
  have HC := Lib.hid (H W a.m a.q h.mm)
  have HH := Lib.hid h
  have HS := Lib.hid hS
  clear H h hS
  go_enter Tryz.func169, Tryz.ntmps169
  go_wp2_with fail
  refine (HC.out).mono ?_
  rintro e' w2 ⟨rfl, hmm, hm2⟩
  obtain ⟨tn, h2⟩ := HH.out.mt hmm hm2
  have HK := Lib.hid (saym_calls S HS.out h2)
  have HT := Lib.hid tn
  clear tn h2 hmm hm2 HC
  go_wp2_with fail
  refine (HK.out).mono ?_
  rintro e' w3 ⟨A, m, cap, T', rfl, hmx, hsl, tn, h3⟩
  go_wp2
  go_ret2
  exact ⟨A, _, cap, T', rfl, rfl, hsl, HT.out.trans tn, h3⟩
end
/-- The text of a number, and a blank. -/
def numL (B : Nat) (x y : Int) : List UInt8 := signed B (W x y).toNat (V x y) ++ [32]
theorem signed_len13 (B : Nat) (x y : Int) (hx : I64 x) (hy : I64 y) (h2 : 2 ≤ B) : (signed B (W x y).toNat (V x y)).length ≤ 129 := by
  obtain ⟨e1, e2, hl⟩ := W_at x y hx hy (W x y).toNat (by have := W_bd x y; omega)
  unfold signed
  by_cases hn : y < 0
  · obtain ⟨M, hM, hMl⟩ := neg_nat x y hx hy hn
    split
    · rw [hM, Int.toNat_natCast]
      have := text_length B M h2 hMl
      simp; omega
    · have := text_length B _ h2 hl
      omega
  · have hsg := V_neg x y hx hy
    rw [if_neg (fun h => hn (hsg.1 h))]
    have := text_length B _ h2 hl
    omega
section
variable {w : World} {a : Ad} {T : List Nat} {R : List Int} {μ : Mu}
theorem saynum_err {x y : Int} (hb : baseE μ ≠ 0) (h : Stt w a T R μ) : Calls Tryz.prog 158 #[Pt a.s, .agg #[.int .i64 x, .int .i64 y]] w (Acted a T w ⟨[], baseE μ, R, μ⟩) := by
  obtain ⟨q1, q2⟩ := q_ne hb
  have hA := far_alloc w (.cells #[.int .i64 x, .int .i64 y] 44)
  have h1 := h.far hA
  have HC := Lib.hid (base_of h1)
  have HH := Lib.hid (And.intro h1 hA)
  obtain ⟨e, he⟩ : ∃ e, e = baseE μ := ⟨_, rfl⟩
  obtain ⟨v, hv⟩ : ∃ e, e = baseV μ := ⟨_, rfl⟩
  rw [← he, ← hv] at HC
  rw [← he] at q1 q2 ⊢
  clear h h1 hA hb he hv
  go_enter Tryz.func158, Tryz.ntmps158
  go_wp2_with fail
  refine (HC.out).mono ?_
  rintro e' w2 ⟨rfl, rfl⟩
  go_wp2
  go_ret2
  exact ⟨none, 0, 0, T, rfl, rfl, Sl.nil _ _, Tn.far HH.out.2, HH.out.1⟩
set_option maxHeartbeats 2000000 in
theorem saynum_ok {x y : Int} (hx : I64 x) (hy : I64 y) (B : Nat) (hB : baseC μ = (B : Int)) (h2 : 2 ≤ B) (h36 : B ≤ 36) (h : Stt w a T R μ) : Calls Tryz.prog 158 #[Pt a.s, .agg #[.int .i64 x, .int .i64 y]] w (Acted a T w ⟨[], 0, R, { μ with O := sayL μ.O (str (numL B x y)) }⟩) := by
  have e1 : baseV μ = (B : Int) := by unfold baseV; rw [if_pos (by omega), hB]
  have e2 : baseE μ = 0 := by unfold baseE; rw [if_pos (by omega)]
  have hA := far_alloc w (.cells #[.int .i64 x, .int .i64 y] 44)
  have h1 := h.far hA
  have o1 : Own (w.alloc (.cells #[.int .i64 x, .int .i64 y] 44)) w.heap.size (.int .i64 x) (.int .i64 y) := Own.last
  have HC := Lib.hid (base_of h1)
  rw [e1, e2] at HC
  have hW0 := W_bd x y
  have HS := Lib.hid (fun V' => signed_calls x y (B : Int) hx hy (W x y).toNat B (by omega) rfl h2 h36 V')
  have hl := signed_len13 B x y hx hy h2
  have hadd : ∀ V', (Op.stringOp .add (bytes (signed B (W x y).toNat (V x y))) ⟨#[32]⟩).run Tryz.prog V' = .ok (.string (str (numL B x y))) V' := fun V' => by
    have hs : (bytes (signed B (W x y).toNat (V x y))).size = (signed B (W x y).toNat (V x y)).length := str_size _
    rw [run_string_add_sum (P := Tryz.prog) (w := V') _ _ (by rw [hs]; have : (⟨#[32]⟩ : ByteArray).size = 1 := rfl; omega)]
    have : bytes (signed B (W x y).toNat (V x y)) ++ ⟨#[32]⟩ = str (numL B x y) := str_append (signed B (W x y).toNat (V x y)) [32]
    rw [this]
  have hnl : (str (numL B x y)).size ≤ 9223372036854775807 := by rw [str_size]; unfold numL; simp; omega
  have HN := Lib.hid hnl
  obtain ⟨S1, hS1⟩ : ∃ S, S = bytes (signed B (W x y).toNat (V x y)) := ⟨_, rfl⟩
  obtain ⟨S2, hS2⟩ : ∃ S, S = str (numL B x y) := ⟨_, rfl⟩
  rw [← hS1] at HS hadd
  rw [← hS2] at hadd HN ⊢
  have HH := Lib.hid (And.intro h1 hA)
  obtain ⟨g0, g1, _, _, _⟩ := o1
  clear h h1 hA hB e1 e2 hx hy hl hnl hS1 hS2 hW0 h2 h36
  go_enter Tryz.func158, Tryz.ntmps158
  go_wp2_with fail
  refine (HC.out).mono ?_
  rintro e' w2 ⟨rfl, rfl⟩
  clear HC
  go_wp2_with fail
  refine (HS.out _).mono ?_
  rintro e' w3 ⟨rfl, hx⟩
  have hm := Mod.of_below hx.1
  have HK := Lib.hid (saym_calls S2 HN.out (HH.out.1.far hm))
  clear hx HS
  go_wp2_with fail
  refine (HK.out).mono ?_
  rintro e' w4 ⟨A, m, cap, T', rfl, hmx, hsl, tn, h4⟩
  go_wp2
  go_ret2
  exact ⟨A, _, cap, T', rfl, rfl, hsl, ((Tn.far HH.out.2).trans (Tn.far hm)).trans tn, h4⟩
end
end Go.Proofs.YtegcecpmdgljpaaGreatDoor
