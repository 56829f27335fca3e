/- Layer 5: MemEnds's walk. Condition: the arguments are numbers of their kinds. -/
import Derived.Test.YtahnbllmgalgpaaM5R
namespace Go.Proofs.Ytahnbllmgalgpaa
open Go.RowKit Go.ChangeShapes
set_option linter.unusedVariables false

theorem inB_yes {n a k : Int} (h : 0 ≤ a ∧ 0 ≤ k ∧ a ≤ n - k) : inB n a k = true := decide_eq_true h
theorem inB_no {n a k : Int} (h : ¬ (0 ≤ a ∧ 0 ≤ k ∧ a ≤ n - k)) : inB n a k = false := decide_eq_false h
theorem getbyte_any {w : World} {p q : Nat} {B : List UInt8} {h : Int} (m : Mm w p q B h) (a : Int) (ha : I64 a) :
    ∃ v e : Int, e = (if 0 ≤ a ∧ a < B.length then 0 else -9) ∧ Calls Try.prog 22 #[Pt p, .int .i64 a] w fun x w' => x = .returned (.tuple #[.int .u8 v, .int .i64 e]) ∧ w = w' := by
  by_cases h : 0 ≤ a ∧ a < B.length
  · obtain ⟨o, rfl⟩ := Int.eq_ofNat_of_zero_le h.1
    exact ⟨_, 0, by rw [if_pos h], getbyte_ok m o (by omega)⟩
  · exact ⟨0, -9, by rw [if_neg h], getbyte_err (Pt p) a (-9) w (by decide) (part_no m a 1 ha (by unfold I64; omega) (inB_no (by omega)))⟩
theorem text_any {w : World} {p q : Nat} {B : List UInt8} {h : Int} (m : Mm w p q B h) (a n : Int) (ha : I64 a) (hn : I64 n) :
    ∃ (s : ByteArray) (e : Int), e = (if 0 ≤ a ∧ 0 ≤ n ∧ a ≤ B.length - n then 0 else -9) ∧ Calls Try.prog 23 #[Pt p, .int .i64 a, .int .i64 n] w fun x w' => x = .returned (.tuple #[.string s, .int .i64 e]) ∧ w = w' := by
  by_cases h : 0 ≤ a ∧ 0 ≤ n ∧ a ≤ B.length - n
  · obtain ⟨o, rfl⟩ := Int.eq_ofNat_of_zero_le h.1
    obtain ⟨k, rfl⟩ := Int.eq_ofNat_of_zero_le h.2.1
    exact ⟨_, 0, by rw [if_pos h], text_ok m o k (by omega)⟩
  · exact ⟨_, -9, by rw [if_neg h], text_err (Pt p) a n (-9) w (part_no m a n ha hn (inB_no h))⟩
theorem get_any {w : World} {p q : Nat} {B : List UInt8} {h : Int} (m : Mm w p q B h) (a : Int) (ha : I64 a) :
    ∃ v e : Int, e = (if 0 ≤ a ∧ a ≤ B.length - 8 then (if a % 8 = 0 then 0 else -23) else -9) ∧ Calls Try.prog 19 #[Pt p, .int .i64 a] w fun x w' => x = .returned (.tuple #[.int .i64 v, .int .i64 e]) ∧ w = w' := by
  by_cases h : 0 ≤ a ∧ a ≤ B.length - 8
  · obtain ⟨o, rfl⟩ := Int.eq_ofNat_of_zero_le h.1
    by_cases h8 : (o : Int) % 8 = 0
    · exact ⟨_, 0, by rw [if_pos h, if_pos h8], get_ok m o (by omega) (by omega)⟩
    · exact ⟨_, -23, by rw [if_pos h, if_neg h8], get_err (Pt p) o (-23) w (cellat_off m o (by omega) (by omega))⟩
  · exact ⟨_, -9, by rw [if_neg h], get_err (Pt p) a (-9) w (cellat_no m a ha (inB_no (by omega)))⟩
theorem put_bad {w : World} {p q : Nat} {B : List UInt8} {h : Int} (m : Mm w p q B h) (a x : Int) (ha : I64 a) :
    ∃ e : Int, e = (if 0 ≤ a ∧ a ≤ B.length - 8 then -23 else -9) ∧ (¬ (0 ≤ a ∧ a ≤ B.length - 8 ∧ a % 8 = 0) → Calls Try.prog 18 #[Pt p, .int .i64 a, .int .i64 x] w fun y w' => y = .returned (.int .i64 e) ∧ w = w') := by
  by_cases h : 0 ≤ a ∧ a ≤ B.length - 8
  · refine ⟨-23, by rw [if_pos h], fun h8 => ?_⟩
    obtain ⟨o, rfl⟩ := Int.eq_ofNat_of_zero_le h.1
    exact put_err (Pt p) o x (-23) w (cellat_off m o (by omega) (by omega))
  · exact ⟨-9, by rw [if_neg h], fun _ => put_err (Pt p) a x (-9) w (cellat_no m a ha (inB_no (by omega)))⟩
theorem move_bad {w : World} {p q : Nat} {B : List UInt8} {h : Int} (m : Mm w p q B h) (f a n : Int) (hf : I64 f) (ha : I64 a) (hn : I64 n) (hb : ¬ (0 ≤ f ∧ 0 ≤ n ∧ f ≤ B.length - n) ∨ ¬ (0 ≤ a ∧ 0 ≤ n ∧ a ≤ B.length - n)) :
    Calls Try.prog 20 #[Pt p, .int .i64 f, .int .i64 a, .int .i64 n] w fun e w' => e = .returned (.int .i64 (-9)) ∧ w = w' := by
  by_cases h : 0 ≤ f ∧ 0 ≤ n ∧ f ≤ B.length - n
  · obtain ⟨o, rfl⟩ := Int.eq_ofNat_of_zero_le h.1
    obtain ⟨k, rfl⟩ := Int.eq_ofNat_of_zero_le h.2.1
    exact move_far m o k a ha (by omega) (inB_no (by rcases hb with hb | hb; exact absurd h hb; exact hb))
  · exact move_err (Pt p) f a n (-9) w (by decide) (part_no m f n hf hn (inB_no h))
theorem fill_bad {w : World} {p q : Nat} {B : List UInt8} {h : Int} (m : Mm w p q B h) (a n c : Int) (ha : I64 a) (hn : I64 n) (hb : ¬ (0 ≤ a ∧ 0 ≤ n ∧ a ≤ B.length - n)) :
    Calls Try.prog 21 #[Pt p, .int .i64 a, .int .i64 n, .int .u8 c] w fun e w' => e = .returned (.int .i64 (-9)) ∧ w = w' :=
  fill_err (Pt p) a n c (-9) w (part_no m a n ha hn (inB_no hb))
theorem putbyte_bad {w : World} {p q : Nat} {B : List UInt8} {h : Int} (m : Mm w p q B h) (a c : Int) (ha : I64 a) (hb : ¬ (0 ≤ a ∧ a < B.length)) :
    Calls Try.prog 24 #[Pt p, .int .i64 a, .int .u8 c] w fun e w' => e = .returned (.int .i64 (-9)) ∧ w = w' :=
  putbyte_err (Pt p) a c (-9) w (part_no m a 1 ha (by unfold I64; omega) (inB_no (by omega)))
set_option maxHeartbeats 8000000 in
set_option maxRecDepth 100000 in
theorem ends_walk (w : World) (a n c : Int) (wa : (Lit.int .i64 a).wf = true) (wn : (Lit.int .i64 n).wf = true) (wc : (Lit.int .u8 c).wf = true) :
    Calls Try.prog 6 #[.int .i64 a, .int .i64 n, .int .u8 c] w fun e w' => e = .returned (.bool true) ∧ Ext w w' := by
  have ha := i64_of_wf wa
  have hn := i64_of_wf wn
  have HI := Lib.hid (And.intro ha hn)
  unfold I64 at ha hn
  clear wa wn wc
  have hS := Lib.hid (shown_calls w)
  go_enter Try.func6, Try.ntmps6
  go_wp2_with fail
  refine (hS.out).mono ?_
  rintro e w0 ⟨rfl, hx0⟩
  have hN := Lib.hid (new_lit 2048 2048 rfl w0 (by omega) (by omega) (by omega))
  go_wp2_with fail
  refine (hN.out).mono ?_
  rintro e w1 ⟨p, q, rfl, hm, hx1, hp, hq⟩
  have HX := Lib.hid (hx0.trans hx1)
  have HP := Lib.hid (And.intro (Nat.le_trans hx0.1.size hp) (Nat.le_trans hx0.1.size hq))
  have hz : (zeros 2048).length = 2048 := List.length_replicate
  have HF := Lib.hid (show Calls Try.prog 21 #[Pt p, .int .i64 0, .int .i64 2048, .int .u8 7] w1 fun e w' => e = .returned (.int .i64 0) ∧ Mm w' p q (splice (zeros 2048) 0 (List.replicate 2048 7)) 0 ∧ Kept p q w1 w' from fill_ok hm 0 2048 7 (by rw [hz]; omega))
  have hl : (splice (zeros 2048) 0 (List.replicate 2048 7)).length = 2048 := by rw [splice_len (by rw [hz, List.length_replicate]; omega), hz]
  obtain ⟨B, hB⟩ : ∃ B, B = splice (zeros 2048) 0 (List.replicate 2048 7) := ⟨_, rfl⟩
  rw [← hB] at HF hl
  clear hx0 hx1 hm hN hS hp hq hz hB
  go_wp2_with fail
  refine (HF.out).mono ?_
  rintro e w2 ⟨rfl, hm, hk⟩
  have HX2 := Lib.hid (HX.out.kept hk HP.out.1 HP.out.2)
  have HA := Lib.hid (all_calls hm)
  obtain ⟨T, hT⟩ : ∃ T, T = textB B := ⟨_, rfl⟩
  have hts : T.size = 2048 := by rw [hT, textB_size, hl]
  have htt : (T.toList == T.toList) = true := by simp
  rw [← hT] at HA
  obtain ⟨v1, e1, he1, hG⟩ := getbyte_any hm a HI.out.1
  obtain ⟨s1, e2, he2, hTx⟩ := text_any hm a n HI.out.1 HI.out.2
  obtain ⟨v3, e3, he3, hGt⟩ := get_any hm a HI.out.1
  obtain ⟨e4, he4, hPt⟩ := put_bad hm a n HI.out.1
  rw [hl] at he1 he2 he3 he4 hPt
  have HG := Lib.hid hG
  have HT := Lib.hid hTx
  have HGt := Lib.hid hGt
  have HPt := Lib.hid hPt
  have HPB := Lib.hid (fun hb => putbyte_bad hm a c HI.out.1 hb)
  have HFB := Lib.hid (fun hb => fill_bad hm a n c HI.out.1 HI.out.2 hb)
  have HM1 := Lib.hid (fun hb => move_bad hm a 0 n HI.out.1 (by unfold I64; omega) HI.out.2 hb)
  have HM2 := Lib.hid (fun hb => move_bad hm 0 a n (by unfold I64; omega) HI.out.1 HI.out.2 hb)
  rw [hl] at HPB HFB HM1 HM2
  have n1 := Lib.hid (get_err (.pointer none) a 2 w2 (cellat_nil a w2))
  have n2 := Lib.hid (put_err (.pointer none) a n 2 w2 (cellat_nil a w2))
  have n3 := Lib.hid (allot_none n w2)
  have n4 := Lib.hid (here_none w2)
  have n5 := Lib.hid (size_none w2)
  clear HF HX HP hm hk hT hl hG hTx hGt hPt
  have H1 := Lib.hid he1
  have H2 := Lib.hid he2
  have H3 := Lib.hid he3
  have H4 := Lib.hid he4
  clear he1 he2 he3 he4
  have hcase : a < 0 ∨ 2048 < a ∨ (a = 2048 ∨ 2040 < a ∧ a < 2048 ∨ 0 ≤ a ∧ a ≤ 2040 ∧ ¬ a % 8 = 0 ∨ 0 ≤ a ∧ a ≤ 2040 ∧ a % 8 = 0) := by omega
  rcases hcase with h | h | h
  · obtain rfl : e1 = -9 := by rw [H1.out, if_neg (by omega)]
    obtain rfl : e2 = -9 := by rw [H2.out, if_neg (by omega)]
    obtain rfl : e3 = -9 := by rw [H3.out, if_neg (by omega)]
    obtain rfl : e4 = -9 := by rw [H4.out, if_neg (by omega)]
    clear H1 H2 H3 H4
    go_wp2_with (first | ((with_reducible refine (HA.out).mono ?_); rintro e w' ⟨rfl, rfl⟩) | ((with_reducible refine (HG.out).mono ?_); rintro e w' ⟨rfl, rfl⟩) | ((with_reducible refine (HT.out).mono ?_); rintro e w' ⟨rfl, rfl⟩) | ((with_reducible refine (HGt.out).mono ?_); rintro e w' ⟨rfl, rfl⟩) | ((with_reducible refine (HPB.out (by omega)).mono ?_); rintro e w' ⟨rfl, rfl⟩) | ((with_reducible refine (HFB.out (by omega)).mono ?_); rintro e w' ⟨rfl, rfl⟩) | ((with_reducible refine (HM1.out (by omega)).mono ?_); rintro e w' ⟨rfl, rfl⟩) | ((with_reducible refine (HM2.out (by omega)).mono ?_); rintro e w' ⟨rfl, rfl⟩) | ((with_reducible refine (HPt.out (by first | omega | (have := H8.out; omega))).mono ?_); rintro e w' ⟨rfl, rfl⟩) | ((with_reducible refine (n1.out).mono ?_); rintro e w' ⟨rfl, rfl⟩) | ((with_reducible refine (n2.out).mono ?_); rintro e w' ⟨rfl, rfl⟩) | ((with_reducible refine (n3.out).mono ?_); rintro e w' ⟨rfl, rfl⟩) | ((with_reducible refine (n4.out).mono ?_); rintro e w' ⟨rfl, rfl⟩) | ((with_reducible refine (n5.out).mono ?_); rintro e w' ⟨rfl, rfl⟩))
    go_ret
    exact ⟨rfl, HX2.out⟩
  · obtain rfl : e1 = -9 := by rw [H1.out, if_neg (by omega)]
    obtain rfl : e2 = -9 := by rw [H2.out, if_neg (by omega)]
    obtain rfl : e3 = -9 := by rw [H3.out, if_neg (by omega)]
    obtain rfl : e4 = -9 := by rw [H4.out, if_neg (by omega)]
    clear H1 H2 H3 H4
    go_wp2_with (first | ((with_reducible refine (HA.out).mono ?_); rintro e w' ⟨rfl, rfl⟩) | ((with_reducible refine (HG.out).mono ?_); rintro e w' ⟨rfl, rfl⟩) | ((with_reducible refine (HT.out).mono ?_); rintro e w' ⟨rfl, rfl⟩) | ((with_reducible refine (HGt.out).mono ?_); rintro e w' ⟨rfl, rfl⟩) | ((with_reducible refine (HPB.out (by omega)).mono ?_); rintro e w' ⟨rfl, rfl⟩) | ((with_reducible refine (HFB.out (by omega)).mono ?_); rintro e w' ⟨rfl, rfl⟩) | ((with_reducible refine (HM1.out (by omega)).mono ?_); rintro e w' ⟨rfl, rfl⟩) | ((with_reducible refine (HM2.out (by omega)).mono ?_); rintro e w' ⟨rfl, rfl⟩) | ((with_reducible refine (HPt.out (by first | omega | (have := H8.out; omega))).mono ?_); rintro e w' ⟨rfl, rfl⟩) | ((with_reducible refine (n1.out).mono ?_); rintro e w' ⟨rfl, rfl⟩) | ((with_reducible refine (n2.out).mono ?_); rintro e w' ⟨rfl, rfl⟩) | ((with_reducible refine (n3.out).mono ?_); rintro e w' ⟨rfl, rfl⟩) | ((with_reducible refine (n4.out).mono ?_); rintro e w' ⟨rfl, rfl⟩) | ((with_reducible refine (n5.out).mono ?_); rintro e w' ⟨rfl, rfl⟩))
    go_ret
    exact ⟨rfl, HX2.out⟩
  · have hn3 : n < 0 ∨ 2048 - a < n ∨ 0 ≤ n ∧ n ≤ 2048 - a := by omega
    rcases h with h | ⟨h, h'⟩ | ⟨h, h', h8⟩ | ⟨h, h', h8⟩
    · have h0 : 2048 ≤ a := by omega
      have h1 : a ≤ 2048 := by omega
      clear h
      rcases hn3 with hn | hn | ⟨hn, hn'⟩
      · obtain rfl : e1 = -9 := by rw [H1.out, if_neg (by omega)]
        obtain rfl : e2 = -9 := by rw [H2.out, if_neg (by omega)]
        obtain rfl : e3 = -9 := by rw [H3.out, if_neg (by omega)]
        obtain rfl : e4 = -9 := by rw [H4.out, if_neg (by omega)]
        clear H1 H2 H3 H4
        go_wp2_with (first | ((with_reducible refine (HA.out).mono ?_); rintro e w' ⟨rfl, rfl⟩) | ((with_reducible refine (HG.out).mono ?_); rintro e w' ⟨rfl, rfl⟩) | ((with_reducible refine (HT.out).mono ?_); rintro e w' ⟨rfl, rfl⟩) | ((with_reducible refine (HGt.out).mono ?_); rintro e w' ⟨rfl, rfl⟩) | ((with_reducible refine (HPB.out (by omega)).mono ?_); rintro e w' ⟨rfl, rfl⟩) | ((with_reducible refine (HFB.out (by omega)).mono ?_); rintro e w' ⟨rfl, rfl⟩) | ((with_reducible refine (HM1.out (by omega)).mono ?_); rintro e w' ⟨rfl, rfl⟩) | ((with_reducible refine (HM2.out (by omega)).mono ?_); rintro e w' ⟨rfl, rfl⟩) | ((with_reducible refine (HPt.out (by first | omega | (have := H8.out; omega))).mono ?_); rintro e w' ⟨rfl, rfl⟩) | ((with_reducible refine (n1.out).mono ?_); rintro e w' ⟨rfl, rfl⟩) | ((with_reducible refine (n2.out).mono ?_); rintro e w' ⟨rfl, rfl⟩) | ((with_reducible refine (n3.out).mono ?_); rintro e w' ⟨rfl, rfl⟩) | ((with_reducible refine (n4.out).mono ?_); rintro e w' ⟨rfl, rfl⟩) | ((with_reducible refine (n5.out).mono ?_); rintro e w' ⟨rfl, rfl⟩))
        go_ret
        exact ⟨rfl, HX2.out⟩
      · obtain rfl : e1 = -9 := by rw [H1.out, if_neg (by omega)]
        obtain rfl : e2 = -9 := by rw [H2.out, if_neg (by omega)]
        obtain rfl : e3 = -9 := by rw [H3.out, if_neg (by omega)]
        obtain rfl : e4 = -9 := by rw [H4.out, if_neg (by omega)]
        clear H1 H2 H3 H4
        go_wp2_with (first | ((with_reducible refine (HA.out).mono ?_); rintro e w' ⟨rfl, rfl⟩) | ((with_reducible refine (HG.out).mono ?_); rintro e w' ⟨rfl, rfl⟩) | ((with_reducible refine (HT.out).mono ?_); rintro e w' ⟨rfl, rfl⟩) | ((with_reducible refine (HGt.out).mono ?_); rintro e w' ⟨rfl, rfl⟩) | ((with_reducible refine (HPB.out (by omega)).mono ?_); rintro e w' ⟨rfl, rfl⟩) | ((with_reducible refine (HFB.out (by omega)).mono ?_); rintro e w' ⟨rfl, rfl⟩) | ((with_reducible refine (HM1.out (by omega)).mono ?_); rintro e w' ⟨rfl, rfl⟩) | ((with_reducible refine (HM2.out (by omega)).mono ?_); rintro e w' ⟨rfl, rfl⟩) | ((with_reducible refine (HPt.out (by first | omega | (have := H8.out; omega))).mono ?_); rintro e w' ⟨rfl, rfl⟩) | ((with_reducible refine (n1.out).mono ?_); rintro e w' ⟨rfl, rfl⟩) | ((with_reducible refine (n2.out).mono ?_); rintro e w' ⟨rfl, rfl⟩) | ((with_reducible refine (n3.out).mono ?_); rintro e w' ⟨rfl, rfl⟩) | ((with_reducible refine (n4.out).mono ?_); rintro e w' ⟨rfl, rfl⟩) | ((with_reducible refine (n5.out).mono ?_); rintro e w' ⟨rfl, rfl⟩))
        go_ret
        exact ⟨rfl, HX2.out⟩
      · obtain rfl : e1 = -9 := by rw [H1.out, if_neg (by omega)]
        obtain rfl : e2 = 0 := by rw [H2.out, if_pos (by omega)]
        obtain rfl : e3 = -9 := by rw [H3.out, if_neg (by omega)]
        obtain rfl : e4 = -9 := by rw [H4.out, if_neg (by omega)]
        clear H1 H2 H3 H4
        go_wp2_with (first | ((with_reducible refine (HA.out).mono ?_); rintro e w' ⟨rfl, rfl⟩) | ((with_reducible refine (HG.out).mono ?_); rintro e w' ⟨rfl, rfl⟩) | ((with_reducible refine (HT.out).mono ?_); rintro e w' ⟨rfl, rfl⟩) | ((with_reducible refine (HGt.out).mono ?_); rintro e w' ⟨rfl, rfl⟩) | ((with_reducible refine (HPB.out (by omega)).mono ?_); rintro e w' ⟨rfl, rfl⟩) | ((with_reducible refine (HFB.out (by omega)).mono ?_); rintro e w' ⟨rfl, rfl⟩) | ((with_reducible refine (HM1.out (by omega)).mono ?_); rintro e w' ⟨rfl, rfl⟩) | ((with_reducible refine (HM2.out (by omega)).mono ?_); rintro e w' ⟨rfl, rfl⟩) | ((with_reducible refine (HPt.out (by first | omega | (have := H8.out; omega))).mono ?_); rintro e w' ⟨rfl, rfl⟩) | ((with_reducible refine (n1.out).mono ?_); rintro e w' ⟨rfl, rfl⟩) | ((with_reducible refine (n2.out).mono ?_); rintro e w' ⟨rfl, rfl⟩) | ((with_reducible refine (n3.out).mono ?_); rintro e w' ⟨rfl, rfl⟩) | ((with_reducible refine (n4.out).mono ?_); rintro e w' ⟨rfl, rfl⟩) | ((with_reducible refine (n5.out).mono ?_); rintro e w' ⟨rfl, rfl⟩))
        go_ret
        exact ⟨rfl, HX2.out⟩
    · have q8 : (a % 8 == 0) = false := by rw [beq_eq_false_iff_ne]; omega
      rcases hn3 with hn | hn | ⟨hn, hn'⟩
      · obtain rfl : e1 = 0 := by rw [H1.out, if_pos (by omega)]
        obtain rfl : e2 = -9 := by rw [H2.out, if_neg (by omega)]
        obtain rfl : e3 = -9 := by rw [H3.out, if_neg (by omega)]
        obtain rfl : e4 = -9 := by rw [H4.out, if_neg (by omega)]
        clear H1 H2 H3 H4
        go_wp2_with (first | ((with_reducible refine (HA.out).mono ?_); rintro e w' ⟨rfl, rfl⟩) | ((with_reducible refine (HG.out).mono ?_); rintro e w' ⟨rfl, rfl⟩) | ((with_reducible refine (HT.out).mono ?_); rintro e w' ⟨rfl, rfl⟩) | ((with_reducible refine (HGt.out).mono ?_); rintro e w' ⟨rfl, rfl⟩) | ((with_reducible refine (HPB.out (by omega)).mono ?_); rintro e w' ⟨rfl, rfl⟩) | ((with_reducible refine (HFB.out (by omega)).mono ?_); rintro e w' ⟨rfl, rfl⟩) | ((with_reducible refine (HM1.out (by omega)).mono ?_); rintro e w' ⟨rfl, rfl⟩) | ((with_reducible refine (HM2.out (by omega)).mono ?_); rintro e w' ⟨rfl, rfl⟩) | ((with_reducible refine (HPt.out (by first | omega | (have := H8.out; omega))).mono ?_); rintro e w' ⟨rfl, rfl⟩) | ((with_reducible refine (n1.out).mono ?_); rintro e w' ⟨rfl, rfl⟩) | ((with_reducible refine (n2.out).mono ?_); rintro e w' ⟨rfl, rfl⟩) | ((with_reducible refine (n3.out).mono ?_); rintro e w' ⟨rfl, rfl⟩) | ((with_reducible refine (n4.out).mono ?_); rintro e w' ⟨rfl, rfl⟩) | ((with_reducible refine (n5.out).mono ?_); rintro e w' ⟨rfl, rfl⟩))
        go_ret
        exact ⟨rfl, HX2.out⟩
      · obtain rfl : e1 = 0 := by rw [H1.out, if_pos (by omega)]
        obtain rfl : e2 = -9 := by rw [H2.out, if_neg (by omega)]
        obtain rfl : e3 = -9 := by rw [H3.out, if_neg (by omega)]
        obtain rfl : e4 = -9 := by rw [H4.out, if_neg (by omega)]
        clear H1 H2 H3 H4
        go_wp2_with (first | ((with_reducible refine (HA.out).mono ?_); rintro e w' ⟨rfl, rfl⟩) | ((with_reducible refine (HG.out).mono ?_); rintro e w' ⟨rfl, rfl⟩) | ((with_reducible refine (HT.out).mono ?_); rintro e w' ⟨rfl, rfl⟩) | ((with_reducible refine (HGt.out).mono ?_); rintro e w' ⟨rfl, rfl⟩) | ((with_reducible refine (HPB.out (by omega)).mono ?_); rintro e w' ⟨rfl, rfl⟩) | ((with_reducible refine (HFB.out (by omega)).mono ?_); rintro e w' ⟨rfl, rfl⟩) | ((with_reducible refine (HM1.out (by omega)).mono ?_); rintro e w' ⟨rfl, rfl⟩) | ((with_reducible refine (HM2.out (by omega)).mono ?_); rintro e w' ⟨rfl, rfl⟩) | ((with_reducible refine (HPt.out (by first | omega | (have := H8.out; omega))).mono ?_); rintro e w' ⟨rfl, rfl⟩) | ((with_reducible refine (n1.out).mono ?_); rintro e w' ⟨rfl, rfl⟩) | ((with_reducible refine (n2.out).mono ?_); rintro e w' ⟨rfl, rfl⟩) | ((with_reducible refine (n3.out).mono ?_); rintro e w' ⟨rfl, rfl⟩) | ((with_reducible refine (n4.out).mono ?_); rintro e w' ⟨rfl, rfl⟩) | ((with_reducible refine (n5.out).mono ?_); rintro e w' ⟨rfl, rfl⟩))
        go_ret
        exact ⟨rfl, HX2.out⟩
      · obtain rfl : e1 = 0 := by rw [H1.out, if_pos (by omega)]
        obtain rfl : e2 = 0 := by rw [H2.out, if_pos (by omega)]
        obtain rfl : e3 = -9 := by rw [H3.out, if_neg (by omega)]
        obtain rfl : e4 = -9 := by rw [H4.out, if_neg (by omega)]
        clear H1 H2 H3 H4
        go_wp2_with (first | ((with_reducible refine (HA.out).mono ?_); rintro e w' ⟨rfl, rfl⟩) | ((with_reducible refine (HG.out).mono ?_); rintro e w' ⟨rfl, rfl⟩) | ((with_reducible refine (HT.out).mono ?_); rintro e w' ⟨rfl, rfl⟩) | ((with_reducible refine (HGt.out).mono ?_); rintro e w' ⟨rfl, rfl⟩) | ((with_reducible refine (HPB.out (by omega)).mono ?_); rintro e w' ⟨rfl, rfl⟩) | ((with_reducible refine (HFB.out (by omega)).mono ?_); rintro e w' ⟨rfl, rfl⟩) | ((with_reducible refine (HM1.out (by omega)).mono ?_); rintro e w' ⟨rfl, rfl⟩) | ((with_reducible refine (HM2.out (by omega)).mono ?_); rintro e w' ⟨rfl, rfl⟩) | ((with_reducible refine (HPt.out (by first | omega | (have := H8.out; omega))).mono ?_); rintro e w' ⟨rfl, rfl⟩) | ((with_reducible refine (n1.out).mono ?_); rintro e w' ⟨rfl, rfl⟩) | ((with_reducible refine (n2.out).mono ?_); rintro e w' ⟨rfl, rfl⟩) | ((with_reducible refine (n3.out).mono ?_); rintro e w' ⟨rfl, rfl⟩) | ((with_reducible refine (n4.out).mono ?_); rintro e w' ⟨rfl, rfl⟩) | ((with_reducible refine (n5.out).mono ?_); rintro e w' ⟨rfl, rfl⟩))
        go_ret
        exact ⟨rfl, HX2.out⟩
    · have q8 : (a % 8 == 0) = false := by rw [beq_eq_false_iff_ne]; exact h8
      have q9 : (a % 8 != 0) = true := by unfold bne; rw [q8]; rfl
      have H8 := Lib.hid h8
      rcases hn3 with hn | hn | ⟨hn, hn'⟩
      · obtain rfl : e1 = 0 := by rw [H1.out, if_pos (by omega)]
        obtain rfl : e2 = -9 := by rw [H2.out, if_neg (by omega)]
        obtain rfl : e3 = -23 := by rw [H3.out, if_pos (by omega), if_neg h8]
        obtain rfl : e4 = -23 := by rw [H4.out, if_pos (by omega)]
        clear H1 H2 H3 H4 h8
        go_wp2_with (first | ((with_reducible refine (HA.out).mono ?_); rintro e w' ⟨rfl, rfl⟩) | ((with_reducible refine (HG.out).mono ?_); rintro e w' ⟨rfl, rfl⟩) | ((with_reducible refine (HT.out).mono ?_); rintro e w' ⟨rfl, rfl⟩) | ((with_reducible refine (HGt.out).mono ?_); rintro e w' ⟨rfl, rfl⟩) | ((with_reducible refine (HPB.out (by omega)).mono ?_); rintro e w' ⟨rfl, rfl⟩) | ((with_reducible refine (HFB.out (by omega)).mono ?_); rintro e w' ⟨rfl, rfl⟩) | ((with_reducible refine (HM1.out (by omega)).mono ?_); rintro e w' ⟨rfl, rfl⟩) | ((with_reducible refine (HM2.out (by omega)).mono ?_); rintro e w' ⟨rfl, rfl⟩) | ((with_reducible refine (HPt.out (by first | omega | (have := H8.out; omega))).mono ?_); rintro e w' ⟨rfl, rfl⟩) | ((with_reducible refine (n1.out).mono ?_); rintro e w' ⟨rfl, rfl⟩) | ((with_reducible refine (n2.out).mono ?_); rintro e w' ⟨rfl, rfl⟩) | ((with_reducible refine (n3.out).mono ?_); rintro e w' ⟨rfl, rfl⟩) | ((with_reducible refine (n4.out).mono ?_); rintro e w' ⟨rfl, rfl⟩) | ((with_reducible refine (n5.out).mono ?_); rintro e w' ⟨rfl, rfl⟩))
        go_ret
        exact ⟨rfl, HX2.out⟩
      · obtain rfl : e1 = 0 := by rw [H1.out, if_pos (by omega)]
        obtain rfl : e2 = -9 := by rw [H2.out, if_neg (by omega)]
        obtain rfl : e3 = -23 := by rw [H3.out, if_pos (by omega), if_neg h8]
        obtain rfl : e4 = -23 := by rw [H4.out, if_pos (by omega)]
        clear H1 H2 H3 H4 h8
        go_wp2_with (first | ((with_reducible refine (HA.out).mono ?_); rintro e w' ⟨rfl, rfl⟩) | ((with_reducible refine (HG.out).mono ?_); rintro e w' ⟨rfl, rfl⟩) | ((with_reducible refine (HT.out).mono ?_); rintro e w' ⟨rfl, rfl⟩) | ((with_reducible refine (HGt.out).mono ?_); rintro e w' ⟨rfl, rfl⟩) | ((with_reducible refine (HPB.out (by omega)).mono ?_); rintro e w' ⟨rfl, rfl⟩) | ((with_reducible refine (HFB.out (by omega)).mono ?_); rintro e w' ⟨rfl, rfl⟩) | ((with_reducible refine (HM1.out (by omega)).mono ?_); rintro e w' ⟨rfl, rfl⟩) | ((with_reducible refine (HM2.out (by omega)).mono ?_); rintro e w' ⟨rfl, rfl⟩) | ((with_reducible refine (HPt.out (by first | omega | (have := H8.out; omega))).mono ?_); rintro e w' ⟨rfl, rfl⟩) | ((with_reducible refine (n1.out).mono ?_); rintro e w' ⟨rfl, rfl⟩) | ((with_reducible refine (n2.out).mono ?_); rintro e w' ⟨rfl, rfl⟩) | ((with_reducible refine (n3.out).mono ?_); rintro e w' ⟨rfl, rfl⟩) | ((with_reducible refine (n4.out).mono ?_); rintro e w' ⟨rfl, rfl⟩) | ((with_reducible refine (n5.out).mono ?_); rintro e w' ⟨rfl, rfl⟩))
        go_ret
        exact ⟨rfl, HX2.out⟩
      · obtain rfl : e1 = 0 := by rw [H1.out, if_pos (by omega)]
        obtain rfl : e2 = 0 := by rw [H2.out, if_pos (by omega)]
        obtain rfl : e3 = -23 := by rw [H3.out, if_pos (by omega), if_neg h8]
        obtain rfl : e4 = -23 := by rw [H4.out, if_pos (by omega)]
        clear H1 H2 H3 H4 h8
        go_wp2_with (first | ((with_reducible refine (HA.out).mono ?_); rintro e w' ⟨rfl, rfl⟩) | ((with_reducible refine (HG.out).mono ?_); rintro e w' ⟨rfl, rfl⟩) | ((with_reducible refine (HT.out).mono ?_); rintro e w' ⟨rfl, rfl⟩) | ((with_reducible refine (HGt.out).mono ?_); rintro e w' ⟨rfl, rfl⟩) | ((with_reducible refine (HPB.out (by omega)).mono ?_); rintro e w' ⟨rfl, rfl⟩) | ((with_reducible refine (HFB.out (by omega)).mono ?_); rintro e w' ⟨rfl, rfl⟩) | ((with_reducible refine (HM1.out (by omega)).mono ?_); rintro e w' ⟨rfl, rfl⟩) | ((with_reducible refine (HM2.out (by omega)).mono ?_); rintro e w' ⟨rfl, rfl⟩) | ((with_reducible refine (HPt.out (by first | omega | (have := H8.out; omega))).mono ?_); rintro e w' ⟨rfl, rfl⟩) | ((with_reducible refine (n1.out).mono ?_); rintro e w' ⟨rfl, rfl⟩) | ((with_reducible refine (n2.out).mono ?_); rintro e w' ⟨rfl, rfl⟩) | ((with_reducible refine (n3.out).mono ?_); rintro e w' ⟨rfl, rfl⟩) | ((with_reducible refine (n4.out).mono ?_); rintro e w' ⟨rfl, rfl⟩) | ((with_reducible refine (n5.out).mono ?_); rintro e w' ⟨rfl, rfl⟩))
        go_ret
        exact ⟨rfl, HX2.out⟩
    · have q8 : (a % 8 == 0) = true := by rw [beq_iff_eq]; exact h8
      rcases hn3 with hn | hn | ⟨hn, hn'⟩
      · obtain rfl : e1 = 0 := by rw [H1.out, if_pos (by omega)]
        obtain rfl : e2 = -9 := by rw [H2.out, if_neg (by omega)]
        obtain rfl : e3 = 0 := by rw [H3.out, if_pos (by omega), if_pos (by omega)]
        obtain rfl : e4 = -23 := by rw [H4.out, if_pos (by omega)]
        clear H1 H2 H3 H4
        go_wp2_with (first | ((with_reducible refine (HA.out).mono ?_); rintro e w' ⟨rfl, rfl⟩) | ((with_reducible refine (HG.out).mono ?_); rintro e w' ⟨rfl, rfl⟩) | ((with_reducible refine (HT.out).mono ?_); rintro e w' ⟨rfl, rfl⟩) | ((with_reducible refine (HGt.out).mono ?_); rintro e w' ⟨rfl, rfl⟩) | ((with_reducible refine (HPB.out (by omega)).mono ?_); rintro e w' ⟨rfl, rfl⟩) | ((with_reducible refine (HFB.out (by omega)).mono ?_); rintro e w' ⟨rfl, rfl⟩) | ((with_reducible refine (HM1.out (by omega)).mono ?_); rintro e w' ⟨rfl, rfl⟩) | ((with_reducible refine (HM2.out (by omega)).mono ?_); rintro e w' ⟨rfl, rfl⟩) | ((with_reducible refine (HPt.out (by first | omega | (have := H8.out; omega))).mono ?_); rintro e w' ⟨rfl, rfl⟩) | ((with_reducible refine (n1.out).mono ?_); rintro e w' ⟨rfl, rfl⟩) | ((with_reducible refine (n2.out).mono ?_); rintro e w' ⟨rfl, rfl⟩) | ((with_reducible refine (n3.out).mono ?_); rintro e w' ⟨rfl, rfl⟩) | ((with_reducible refine (n4.out).mono ?_); rintro e w' ⟨rfl, rfl⟩) | ((with_reducible refine (n5.out).mono ?_); rintro e w' ⟨rfl, rfl⟩))
        go_ret
        exact ⟨rfl, HX2.out⟩
      · obtain rfl : e1 = 0 := by rw [H1.out, if_pos (by omega)]
        obtain rfl : e2 = -9 := by rw [H2.out, if_neg (by omega)]
        obtain rfl : e3 = 0 := by rw [H3.out, if_pos (by omega), if_pos (by omega)]
        obtain rfl : e4 = -23 := by rw [H4.out, if_pos (by omega)]
        clear H1 H2 H3 H4
        go_wp2_with (first | ((with_reducible refine (HA.out).mono ?_); rintro e w' ⟨rfl, rfl⟩) | ((with_reducible refine (HG.out).mono ?_); rintro e w' ⟨rfl, rfl⟩) | ((with_reducible refine (HT.out).mono ?_); rintro e w' ⟨rfl, rfl⟩) | ((with_reducible refine (HGt.out).mono ?_); rintro e w' ⟨rfl, rfl⟩) | ((with_reducible refine (HPB.out (by omega)).mono ?_); rintro e w' ⟨rfl, rfl⟩) | ((with_reducible refine (HFB.out (by omega)).mono ?_); rintro e w' ⟨rfl, rfl⟩) | ((with_reducible refine (HM1.out (by omega)).mono ?_); rintro e w' ⟨rfl, rfl⟩) | ((with_reducible refine (HM2.out (by omega)).mono ?_); rintro e w' ⟨rfl, rfl⟩) | ((with_reducible refine (HPt.out (by first | omega | (have := H8.out; omega))).mono ?_); rintro e w' ⟨rfl, rfl⟩) | ((with_reducible refine (n1.out).mono ?_); rintro e w' ⟨rfl, rfl⟩) | ((with_reducible refine (n2.out).mono ?_); rintro e w' ⟨rfl, rfl⟩) | ((with_reducible refine (n3.out).mono ?_); rintro e w' ⟨rfl, rfl⟩) | ((with_reducible refine (n4.out).mono ?_); rintro e w' ⟨rfl, rfl⟩) | ((with_reducible refine (n5.out).mono ?_); rintro e w' ⟨rfl, rfl⟩))
        go_ret
        exact ⟨rfl, HX2.out⟩
      · obtain rfl : e1 = 0 := by rw [H1.out, if_pos (by omega)]
        obtain rfl : e2 = 0 := by rw [H2.out, if_pos (by omega)]
        obtain rfl : e3 = 0 := by rw [H3.out, if_pos (by omega), if_pos (by omega)]
        obtain rfl : e4 = -23 := by rw [H4.out, if_pos (by omega)]
        clear H1 H2 H3 H4
        go_wp2_with (first | ((with_reducible refine (HA.out).mono ?_); rintro e w' ⟨rfl, rfl⟩) | ((with_reducible refine (HG.out).mono ?_); rintro e w' ⟨rfl, rfl⟩) | ((with_reducible refine (HT.out).mono ?_); rintro e w' ⟨rfl, rfl⟩) | ((with_reducible refine (HGt.out).mono ?_); rintro e w' ⟨rfl, rfl⟩) | ((with_reducible refine (HPB.out (by omega)).mono ?_); rintro e w' ⟨rfl, rfl⟩) | ((with_reducible refine (HFB.out (by omega)).mono ?_); rintro e w' ⟨rfl, rfl⟩) | ((with_reducible refine (HM1.out (by omega)).mono ?_); rintro e w' ⟨rfl, rfl⟩) | ((with_reducible refine (HM2.out (by omega)).mono ?_); rintro e w' ⟨rfl, rfl⟩) | ((with_reducible refine (HPt.out (by first | omega | (have := H8.out; omega))).mono ?_); rintro e w' ⟨rfl, rfl⟩) | ((with_reducible refine (n1.out).mono ?_); rintro e w' ⟨rfl, rfl⟩) | ((with_reducible refine (n2.out).mono ?_); rintro e w' ⟨rfl, rfl⟩) | ((with_reducible refine (n3.out).mono ?_); rintro e w' ⟨rfl, rfl⟩) | ((with_reducible refine (n4.out).mono ?_); rintro e w' ⟨rfl, rfl⟩) | ((with_reducible refine (n5.out).mono ?_); rintro e w' ⟨rfl, rfl⟩))
        go_ret
        exact ⟨rfl, HX2.out⟩
end Go.Proofs.Ytahnbllmgalgpaa
