/- Layer 13: PrimTells's walk. Condition: the arguments are a slice of numbers and a text; the listed variables hold what they hold. -/
import Derived.Test.YtegcecpmdgljpaaGreatDoorVM
namespace Go.Proofs.YtegcecpmdgljpaaGreatDoor
open Go.RowKit
set_option linter.unusedVariables false

def muO (O : List UInt8) : Mu := { mu0 1024 with O := O }
theorem muO_len (O : List UInt8) : (muO O).B.length = 1024 := mu0_len
theorem spaces_uni (U : Nat) (hU : U ≤ 65535) (Y : List UInt8) : Uni 97 1 [(U : Int)] (muO (Y.take 4000)) [] 0 (muO ((Y ++ List.replicate (min U 4000) 32).take 4000)) := by
  have h := act_97 (U : Int) (muO (Y.take 4000))
  have e : blanksN (U : Int) = min U 4000 := by unfold blanksN; omega
  rw [e, show (muO (Y.take 4000)).O = Y.take 4000 from rfl, say_cap] at h
  exact h
def muN (O X : List UInt8) : Mu := muP (muO O) 768 X
theorem noted_uni (Y X : List UInt8) (hX : X.length ≤ 256) : Uni 98 2 [768, (X.length : Int)] (muN (Y.take 4000) X) [] 0 { muN (Y.take 4000) X with O := (Y ++ X).take 4000 } := by
  have hl : (muO (Y.take 4000)).B.length = 1024 := muO_len _
  have hlen : (muN (Y.take 4000) X).B.length = 1024 := by
    show (muP _ 768 X).B.length = 1024
    rw [muP_len _ _ _ (by rw [hl]; omega), hl]
  have e : textB (((muN (Y.take 4000) X).B.drop 768).take X.length) = str X := by
    show textB (((splice (muO (Y.take 4000)).B 768 X).drop 768).take X.length) = _
    rw [splice_back _ _ _ (by rw [hl]; omega)]
    rfl
  refine act_98_of _ _ _ _ (muN (Y.take 4000) X) _ fun W a T R h => ?_
  have H : MT 17 [.int .i64 ((768 : Nat) : Int), .int .i64 (X.length : Int)] (.tuple #[.string (str X), .int .i64 0]) (muN (Y.take 4000) X).B (muN (Y.take 4000) X).h (muN (Y.take 4000) X).B (muN (Y.take 4000) X).h := MT.same fun W p q m => by
    have := text_ok m 768 X.length (by rw [hlen]; omega)
    rw [e] at this
    exact this
  have := stored_ok H (by rw [str_size]; omega) h
  rw [show (muN (Y.take 4000) X).O = Y.take 4000 from rfl, say_cap] at this
  exact this
set_option maxHeartbeats 4000000 in
set_option maxRecDepth 100000 in
theorem tells_walk {w : World} (g : Good w) (A : Option Addr) (len cap : Nat) (zs : List Int) (R : RowIn .u16 w A len cap zs) (T : ByteArray) (hT : T.size ≤ maxLen) :
    Calls Tryz.prog 7 #[.slice A len cap, .string T] w fun e w' => e = .returned (.bool true) ∧ Mod [] w w' := by
  have G := Lib.hid g
  have hle := R.le
  obtain ⟨k, hk⟩ : ∃ k, k = min len 30 := ⟨_, rfl⟩
  obtain ⟨l, hll, lies, hl6⟩ := R.u16s k (by omega)
  have hsl := fun W => upto_in W 55 56 Tryz.underlying55 (fun w => by kernel_rfl) A len cap k (by omega)
  have hm1 : min (len : Int) 30 = (k : Int) := by omega
  obtain ⟨q, hq⟩ : ∃ q, q = min T.size 300 := ⟨_, rfl⟩
  obtain ⟨X, hX⟩ : ∃ X : List UInt8, X = T.data.toList.take q := ⟨_, rfl⟩
  have hTl : T.data.toList.length = T.size := Array.length_toList
  have hXl : X.length = q := by rw [hX, List.length_take, hTl]; omega
  have hext : T.extract 0 q = str X := by
    rw [hX]
    conv => lhs; rw [str_back T]
    rw [str_extract]; simp
  have hm2 : min (T.size : Int) 300 = (q : Int) := by omega
  have hqT : q ≤ T.size := by omega
  have HL := Lib.hid (And.intro lies (And.intro hll hl6))
  have HK := Lib.hid (And.intro (show k ≤ 30 by omega) (And.intro (show q ≤ 300 by omega) hXl))
  obtain ⟨XS, hXS⟩ : ∃ XS, XS = str X := ⟨_, rfl⟩
  rw [← hXS] at hext
  have HXS := Lib.hid hXS
  clear g R lies hll hl6 hle hk hq hX hTl hXl hXS
  go_enter Tryz.func7, Tryz.ntmps7
  go_wp2_with fail
  refine (shown13 w G.out).mono ?_
  rintro e w1 ⟨rfl, m1⟩
  have M1 := Lib.hid m1
  clear m1
  go_wp2_with fail
  refine (lv_new 1024 M1.out (G.out.mod M1.out (by simp)) (by decide) (by decide) (by decide)).mono ?_
  rintro e w2 ⟨a, rfl, h2, _⟩
  have H2 := Lib.hid (show (([] : List UInt8).length ≤ 4300 * 0 ∧ Lv w w2 a [] [] (muO (([] : List UInt8).take 4000))) from ⟨by simp, h2⟩)
  clear h2 M1
  go_wp2_with fail
  go_loopw [9, 36] (fun v i wr => ∃ (j : Nat) (Y : List UInt8), j ≤ k ∧ i = .int .i64 (j : Int) ∧ v = .string (str Y) ∧ RowKit.Hid (Y.length ≤ 4300 * j ∧ Lv w wr a [] [] (muO (Y.take 4000)))) (fun _ i _ => k - (intOf i).toNat)
  case atStart => exact ⟨0, [], by omega, rfl, rfl, H2⟩
  case round =>
    obtain ⟨j, Y, hj, rfl, rfl, HX⟩ := hrel
    clear H2 hm1 hsl hm2 hqT hext
    have hss := str_size Y
    obtain ⟨S, hS⟩ : ∃ S, S = str Y := ⟨_, rfl⟩
    rw [← hS] at hss ⊢
    have HS := Lib.hid hS
    clear hS
    by_cases hlt : j < k
    · obtain ⟨x, hA, hx⟩ := (HL.out.1.mod HX.out.2.mod) j (by rw [HL.out.2.1]; exact hlt)
      have hu := HL.out.2.2 _ (List.getElem_mem (l := l) (n := j) (by rw [HL.out.2.1]; exact hlt))
      generalize l[j]'(by rw [HL.out.2.1]; exact hlt) = u at hx hu
      obtain ⟨U, rfl⟩ := Int.eq_ofNat_of_zero_le hu.1
      have HU := Lib.hid (show U ≤ 65535 by omega)
      subst hA
      have h1 : (0 : Int) ≤ (j : Int) := by omega
      have h2 : (j : Int) < (k : Int) := by omega
      have hk3 : (k : Int) ≤ 30 := by have := HK.out.1; omega
      have hwu : wrap64 (U : Int) = (U : Int) := by unfold wrap64; omega
      have HI := Lib.hid (show I64 (U : Int) by unfold I64; omega)
      have s0 : (str (List.replicate (min U 4000) 32)).size ≤ 4000 := by rw [str_size, List.length_replicate]; omega
      have s1 : XS.size ≤ 300 := by rw [HXS.out, str_size]; have := HK.out.2; omega
      have s2 : S.size ≤ 129000 := by have := HX.out.1; omega
      have hadd1 := fun V' => run_string_add_sum (P := Tryz.prog) V' (str (List.replicate (min U 4000) 32)) XS (by omega)
      have hadd2 := fun V' => run_string_add_sum (P := Tryz.prog) V' S (str (List.replicate (min U 4000) 32) ++ XS) (by rw [ByteArray.size_append]; omega)
      rw [show S ++ (str (List.replicate (min U 4000) 32) ++ XS) = str (Y ++ (List.replicate (min U 4000) 32 ++ X)) by rw [HS.out, HXS.out, str_append, str_append]] at hadd2
      have HNX := Lib.hid (show (Y ++ (List.replicate (min U 4000) 32 ++ X)).length ≤ 4300 * (j + 1) by
        have := HX.out.1; have := HK.out.2; simp; omega)
      obtain ⟨RS, hRS⟩ : ∃ RS, RS = str (List.replicate (min U 4000) 32) := ⟨_, rfl⟩
      rw [← hRS] at hadd1 hadd2
      obtain ⟨RX, hRX⟩ : ∃ RX, RX = RS ++ XS := ⟨_, rfl⟩
      rw [← hRX] at hadd1 hadd2
      have HRS := Lib.hid hRS
      clear hu hss s0 s1 s2 hRS hRX
      go_wp2_with fail
      refine (HX.out.2.stack).mono ?_
      rintro e w7 ⟨rfl, rfl⟩
      go_wp2_with fail
      refine (HX.out.2.push (U : Int) HI.out).mono ?_
      rintro e w7 ⟨rfl, h7⟩
      rw [putL_ok (by simp)] at h7
      have H7 := Lib.hid (show Lv w w7 a [] ([] ++ [(U : Int)]) (muO (Y.take 4000)) from h7)
      clear h7 HX
      go_wp2_with fail
      refine (H7.out.ok (n := 97) (by decide) rfl (spaces_uni U HU.out Y) (by simp) (by simp)).mono ?_
      rintro e w8 ⟨rfl, h8⟩
      have H8 := Lib.hid (show Lv w w8 a [] [] (muO (List.take 4000 (Y ++ List.replicate (min U 4000) 32))) from h8)
      clear h8 H7
      go_wp2_with fail
      refine (H8.out.say XS (by rw [HXS.out, str_size]; have := HK.out.2; omega)).mono ?_
      rintro e w9 ⟨rfl, h9⟩
      have H9 := Lib.hid (show Lv w w9 a [] [] (muO (List.take 4000 (Y ++ (List.replicate (min U 4000) 32 ++ X)))) by
        rw [HXS.out, show (muO (List.take 4000 (Y ++ List.replicate (min U 4000) 32))).O = List.take 4000 (Y ++ List.replicate (min U 4000) 32) from rfl, say_cap, List.append_assoc] at h9
        exact h9)
      clear h9 H8
      go_wp2_with fail
      refine (fill_calls U HU.out w9).mono ?_
      rintro e w10 ⟨b, rfl, hb⟩
      have hcv := hb.conv
      rw [← HRS.out] at hcv
      have H10 := Lib.hid (show (Y ++ (List.replicate (min U 4000) 32 ++ X)).length ≤ 4300 * (j + 1) ∧ Lv w w10 a [] [] (muO (List.take 4000 (Y ++ (List.replicate (min U 4000) 32 ++ X)))) from ⟨HNX.out, H9.out.far hb.m⟩)
      clear hb H9
      go_wp2_with fail
      exact ⟨⟨j + 1, _, hlt, by simp, rfl, H10⟩, by simp [intOf]; omega⟩
    · obtain rfl : j = k := by omega
      obtain ⟨N, hN⟩ : ∃ N, N = min X.length 256 := ⟨_, rfl⟩
      have hX3 : X.length ≤ 300 := by have := HK.out.2; omega
      have hnote := HX.out.2.note (muO_len _) X hX3
      rw [← hN, ← HXS.out] at hnote
      have HN := Lib.hid hnote
      obtain ⟨Z, hZ⟩ : ∃ Z, Z = X.take 256 := ⟨_, rfl⟩
      have hZl : Z.length = N := by rw [hZ, List.length_take]; omega
      have hZ6 : Z.length ≤ 256 := by omega
      have hxs : XS.size = X.length := by rw [HXS.out, str_size]
      have hmn : min (XS.size : Int) 256 = (N : Int) := by omega
      have hnx : N ≤ XS.size := by omega
      have hn6 : N ≤ 256 := by omega
      have hsx : XS.extract 0 N = str Z := by
        rw [HXS.out, str_extract, hZ, hN]
        simp only [List.drop_zero, Nat.sub_zero]
        congr 1
        by_cases h2 : X.length ≤ 256
        · rw [Nat.min_eq_left h2, List.take_of_length_le (Nat.le_refl _), List.take_of_length_le h2]
        · rw [Nat.min_eq_right (by omega)]
      rw [← hZ] at HN
      have zs := str_size Z
      have s2 : S.size ≤ 129000 := by have := HX.out.1; have := HK.out.1; omega
      have hadd := fun V' => run_string_add_sum (P := Tryz.prog) V' S (str Z) (by omega)
      rw [show S ++ str Z = str (Y ++ Z) by rw [HS.out, str_append]] at hadd
      obtain ⟨WS, hWS⟩ : ∃ WS, WS = str (Y ++ Z) := ⟨_, rfl⟩
      rw [← hWS] at hadd
      obtain ⟨M, hM⟩ : ∃ M, M = min WS.size 4000 := ⟨_, rfl⟩
      have hmm : min (WS.size : Int) 4000 = (M : Int) := by omega
      have hMW : M ≤ WS.size := by omega
      have hws : WS.extract 0 M = str (List.take 4000 (Y ++ Z)) := by
        rw [hM, hWS, str_extract, str_size]
        simp only [List.drop_zero, Nat.sub_zero]
        congr 1
        by_cases h2 : (Y ++ Z).length ≤ 4000
        · rw [Nat.min_eq_left h2, List.take_of_length_le (Nat.le_refl _), List.take_of_length_le h2]
        · rw [Nat.min_eq_right (by omega)]
      obtain ⟨OS, hOS⟩ : ∃ OS, OS = str (List.take 4000 (Y ++ Z)) := ⟨_, rfl⟩
      rw [← hOS] at hws
      obtain ⟨ZS, hZS⟩ : ∃ ZS, ZS = str Z := ⟨_, rfl⟩
      rw [← hZS] at hadd hsx
      have HI := Lib.hid (two_in (x := 768) (y := (N : Int)) (by unfold I64; omega) (by unfold I64; omega))
      have HU := Lib.hid (noted_uni Y Z hZ6)
      rw [hZl] at HU
      have HOS := Lib.hid hOS
      have hws4 : (M : Int) ≤ 4000 := by omega
      clear hnote hZ hZl hZ6 hxs zs s2 hWS hOS hZS hss HX hX3 hN hM hlt hj
      go_wp2_with fail
      refine (HN.out).mono ?_
      rintro e w7 ⟨rfl, h7⟩
      have H7 := Lib.hid (show Lv w w7 a [] [] (muN (Y.take 4000) Z) from h7)
      clear h7 HN
      go_wp2_with fail
      refine (H7.out.stack).mono ?_
      rintro e w8 ⟨rfl, rfl⟩
      go_wp2_with fail
      refine ((H7.out.far (far_alloc _ _)).put 2 (sl_two _ _ _ _) rfl HI.out (by simp)).mono ?_
      rintro e w8 ⟨rfl, h8⟩
      rw [putL_nil [768, (N : Int)] (by simp)] at h8
      have H8 := Lib.hid h8
      clear h8 H7
      go_wp2_with fail
      refine (H8.out.ok (R := []) (X := [768, (N : Int)]) (n := 98) (by decide) rfl HU.out (by simp) (by simp)).mono ?_
      rintro e w9 ⟨rfl, h9⟩
      have H9 := Lib.hid h9
      have mD : Mod [] w9 w9.drew := (Mod.refl [] w9).drew
      have ho := (h9.far mD).out
      rw [show str (have __src := muN (Y.take 4000) Z; { B := __src.B, h := __src.h, O := List.take 4000 (Y ++ Z), K := __src.K } : Mu).O = OS from HOS.out.symm] at ho
      have HO := Lib.hid ho
      clear h9 H8 ho mD
      go_wp2_with fail
      go_region_held3 (fun _ => True) (exact trivial) (first | ((with_reducible refine (HO.out).mono ?_); rintro e w10 ⟨rfl, rfl⟩) | fail)
      all_goals
        go_wp2
        go_ret
        exact ⟨rfl, H9.out.mod.far (Mod.refl [] w9).drew⟩
end Go.Proofs.YtegcecpmdgljpaaGreatDoor
