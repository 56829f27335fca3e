/- Layer 13: PrimHolds's walk. Condition: the arguments are a slice of bytes and a number; the listed variables hold what they hold. -/
import Derived.Test.YtegcecpmdgljpaaGreatDoorVG
namespace Go.Proofs.YtegcecpmdgljpaaGreatDoor
open Go.RowKit
set_option linter.unusedVariables false

theorem bt_back (c : UInt8) : bt (c.toNat : Int) = c := by
  have := c.toNat_lt
  unfold bt
  apply UInt8.toNat_inj.1
  rw [UInt8.toNat_ofNat']
  omega
theorem W_small (N : Nat) (h : N < 4294967296) : W (N : Int) 0 = (N : Int) := by unfold W U; omega
def muK (K : List UInt8) : Mu := { mu0 1024 with K := K }
theorem muK_len (K : List UInt8) : (muK K).B.length = 1024 := mu0_len
theorem endK (K : List UInt8) : endAt (muK K) = 768 - K.length := by
  unfold endAt
  rw [muK_len]
  rfl
theorem hold_uni (c : UInt8) (K : List UInt8) (h : K.length < 200) : Uni 105 1 [(c.toNat : Int)] (muK K) [] 0 (muK (c :: K)) := by
  have U := act_105 (c.toNat : Int) (muK K)
  rw [bt_back] at U
  unfold holdE holdM at U
  rw [if_neg (by show ¬ 200 ≤ K.length; omega), if_neg (by show ¬ 200 ≤ K.length; omega)] at U
  exact U
theorem hold_full (c : UInt8) (K : List UInt8) (h : 200 ≤ K.length) : Uni 105 1 [(c.toNat : Int)] (muK K) [] (-17) (muK K) := by
  have U := act_105 (c.toNat : Int) (muK K)
  unfold holdE holdM at U
  rw [if_pos (show 200 ≤ (muK K).K.length from h), if_pos (show 200 ≤ (muK K).K.length from h)] at U
  exact U
set_option maxHeartbeats 4000000 in
set_option maxRecDepth 100000 in
theorem holds_walk {w : World} (g : Good w) (A : Option Addr) (len cap : Nat) (zs : List Int) (R : RowIn .u8 w A len cap zs) (n : Int) (wn : (Lit.int .u32 n).wf = true) :
    Calls Tryz.prog 9 #[.slice A len cap, .int .u32 n] w fun e w' => e = .returned (.bool true) ∧ Mod [] w w' := by
  have G := Lib.hid g
  have hn := bounds_u32 wn
  obtain ⟨N, rfl⟩ := Int.eq_ofNat_of_zero_le hn.1
  have hN : N < 4294967296 := by omega
  have hwn : wrap64 (N : Int) = (N : Int) := by unfold wrap64; omega
  have HN := Lib.hid hN
  have hle := R.le
  obtain ⟨l0, hl0, lies0⟩ := R.bytes
  obtain ⟨k, hk⟩ : ∃ k, k = min len 220 := ⟨_, rfl⟩
  have hsl := fun W => upto_in W 59 5 Tryz.underlying59 Tryz.sizeByteIn A len cap k (by omega)
  have hm1 : min (len : Int) 220 = (k : Int) := by omega
  have lies := lies0.take k
  have hlk : (l0.take k).length = k := by simp; omega
  generalize l0.take k = l at lies hlk
  have HL := Lib.hid (And.intro lies hlk)
  have HK := Lib.hid (show k ≤ 220 by omega)
  clear g wn hn hN R hl0 lies0 lies hlk hle hk
  go_enter Tryz.func9, Tryz.ntmps9
  go_wp2_with fail
  refine (shown13 w G.out).mono ?_
  rintro e w1 ⟨rfl, m1⟩
  have M1 := Lib.hid m1
  clear m1
  go_wp2_with fail
  refine (lv_new 1024 M1.out (G.out.mod M1.out (by simp)) (by decide) (by decide) (by decide)).mono ?_
  rintro e w2 ⟨a, rfl, h2, _⟩
  have H2 := Lib.hid h2
  have hi : I64 (N : Int) := by have := HN.out; unfold I64; omega
  have HI := Lib.hid hi
  have HT := Lib.hid (rtext_calls w2 (N : Int) 0 10 hi zero_i64 N 10 (W_small N HN.out) rfl (by decide) (by decide) w2 (Ext.refl w2))
  have hT := text_length 10 N (by decide) (by have := HN.out; unfold two128; omega)
  have HTL := Lib.hid hT
  obtain ⟨K0, hK0⟩ : ∃ K, K = text 10 N := ⟨_, rfl⟩
  rw [← hK0] at HT
  have HK0 := Lib.hid hK0
  clear h2 M1 hi hT hK0
  go_wp2_with fail
  refine (HT.out).mono ?_
  rintro e w3 ⟨rfl, hx⟩
  have H3 := Lib.hid (H2.out.far (Mod.of_below hx.1))
  clear hx H2 HT
  go_wp2_with fail
  refine (H3.out.stack).mono ?_
  rintro e w4 ⟨rfl, rfl⟩
  go_wp2_with fail
  refine ((H3.out.far (far_alloc _ _)).put 2 (sl_two _ _ _ _) rfl (two_in HI.out zero_i64) (by simp)).mono ?_
  rintro e w4 ⟨rfl, h4⟩
  rw [putL_nil [(N : Int), 0] (by simp)] at h4
  have H4 := Lib.hid h4
  clear h4 H3
  go_wp2_with fail
  refine (H4.out.ok0 (n := 102) (by decide) rfl (begin_uni _) (by simp) (by simp)).mono ?_
  rintro e w5 ⟨rfl, h5⟩
  have H5 := Lib.hid (show Lv w w5 a [] ([] ++ [(N : Int), 0]) (muK []) from h5)
  clear h5 H4
  go_wp2_with fail
  refine (H5.out.ok (R := []) (X := [(N : Int), 0]) (n := 104) (by decide) rfl (digits_uni (N : Int) 0 HI.out zero_i64 (muK []) 10 N (W_small N HN.out) (base0 1024) (by decide) (by decide) (by show (text 10 N ++ []).length ≤ 200; have := HTL.out; simp; omega)) (two_in zero_i64 zero_i64) (by simp)).mono ?_
  rintro e w6 ⟨rfl, h6⟩
  have H6 := Lib.hid (show K0.length ≤ 200 ∧ Lv w w6 a [] [0, 0] (muK K0) by
    rw [HK0.out]
    refine ⟨by have := HTL.out; omega, ?_⟩
    have : muK (text 10 N) = { muK [] with K := text 10 N ++ (muK []).K } := by unfold muK; rw [List.append_nil]
    rw [this]
    exact h6)
  clear h6 H5
  go_wp2_with fail
  go_loopw [9, 52] (fun v i wr => ∃ (j : Nat) (K : List UInt8), j ≤ k ∧ i = .int .i64 (j : Int) ∧ v = .string (str K) ∧ RowKit.Hid (K.length ≤ 200 ∧ Lv w wr a [] [0, 0] (muK K))) (fun _ i _ => k - (intOf i).toNat)
  case atStart => exact ⟨0, K0, by omega, rfl, rfl, H6⟩
  case round =>
    obtain ⟨j, K, hj, rfl, rfl, HX⟩ := hrel
    clear H6 hm1 hsl
    have hss := str_size K
    obtain ⟨S, hS⟩ : ∃ S, S = str K := ⟨_, rfl⟩
    rw [← hS] at hss ⊢
    have HS := Lib.hid hS
    clear hS
    by_cases hlt : j < k
    · obtain ⟨x, hA, hx⟩ := (HL.out.1.mod HX.out.2.mod) j (by rw [HL.out.2]; exact hlt)
      generalize l[j]'(by rw [HL.out.2]; exact hlt) = u at hx
      subst hA
      have h1 : (0 : Int) ≤ (j : Int) := by omega
      have h2 : (j : Int) < (k : Int) := by omega
      have hk3 : (k : Int) ≤ 220 := by have := HK.out; omega
      have hu := u.toNat_lt
      have hwu : wrap64 (u.toNat : Int) = (u.toNat : Int) := by unfold wrap64; omega
      have HU := Lib.hid (byte_i64 u)
      clear hu
      go_wp2_with fail
      refine (HX.out.2.stack).mono ?_
      rintro e w7 ⟨rfl, rfl⟩
      go_wp2_with fail
      refine (HX.out.2.push (u.toNat : Int) HU.out).mono ?_
      rintro e w7 ⟨rfl, h7⟩
      rw [putL_ok (by simp)] at h7
      have H7 := Lib.hid (show Lv w w7 a [] ([0, 0] ++ [(u.toNat : Int)]) (muK K) from h7)
      clear h7
      by_cases hf : 200 ≤ K.length
      · have hsz : (200 : Int) ≤ (S.size : Int) := by omega
        have HF := Lib.hid (And.intro hf HX.out.1)
        clear hf hss HX
        go_wp2_with fail
        refine (H7.out.err (n := 105) (by decide) rfl (hold_full u K HF.out.1) (by decide) (by simp) (by simp)).mono ?_
        rintro e w8 ⟨rfl, h8⟩
        have H8 := Lib.hid (show Lv w w8 a [] [0, 0, (u.toNat : Int)] (muK K) from h8)
        clear h8 H7
        have HD := Lib.hid (H8.out.stk 29 (by decide))
        rw [show doL 29 [0, 0, (u.toNat : Int)] = (0, [0, 0]) from rfl] at HD
        go_wp2_with fail
        refine (HD.out).mono ?_
        rintro e w9 ⟨rfl, h9⟩
        have H9 := Lib.hid (And.intro HF.out.2 h9)
        clear h9 HD H8
        go_wp2_with fail
        exact ⟨⟨j + 1, K, hlt, by simp, by rw [HS.out], H9⟩, by simp [intOf]; omega⟩
      · have hsz : (S.size : Int) < 200 := by omega
        have hf' : K.length < 200 := by omega
        have HF := Lib.hid hf'
        have k1 : (str [u]).size = 1 := by rw [str_size]; rfl
        have hadd := fun V' => run_string_add_sum (P := Tryz.prog) V' (str [u]) S (by omega)
        rw [show str [u] ++ S = str (u :: K) by rw [HS.out]; exact str_append [u] K] at hadd
        clear hf hf' hss HX k1
        go_wp2_with fail
        refine (H7.out.ok (n := 105) (by decide) rfl (hold_uni u K HF.out) (by simp) (by simp)).mono ?_
        rintro e w8 ⟨rfl, h8⟩
        have H8 := Lib.hid (show Lv w w8 a [] [0, 0] (muK (u :: K)) from h8)
        clear h8 H7
        have hcv : (convert 59 9 (.slice (some ⟨w8.heap.size, 0, none⟩) 1 1)).run Tryz.prog (w8.alloc (.cells #[.int .u8 (u.toNat : Int)] 5)) = .ok (.string (str [u])) (w8.alloc (.cells #[.int .u8 (u.toNat : Int)] 5)) := by
          refine run_convert_bytes_back (P := Tryz.prog) _ 59 9 5 ⟨w8.heap.size, 0, none⟩ 1 [u] Tryz.underlying59 Tryz.underlying5 Tryz.underlying9 fun j hj => ?_
          obtain rfl : j = 0 := by simp at hj; omega
          rw [WideShapes.add_plain, Nat.zero_add]
          exact cell_new w8 _ _
        have H9 := Lib.hid (show (u :: K).length ≤ 200 ∧ Lv w (w8.alloc (.cells #[.int .u8 (u.toNat : Int)] 5)) a [] [0, 0] (muK (u :: K)) from ⟨by have := HF.out; simp; omega, H8.out.far (far_alloc _ _)⟩)
        clear H8
        go_wp2_with fail
        exact ⟨⟨j + 1, u :: K, hlt, by simp, rfl, H9⟩, by simp [intOf]; omega⟩
    · obtain rfl : j = k := by omega
      have hkl : K.length ≤ 200 := HX.out.1
      have U := end_uni 0 0 (muK K)
      rw [endK K, show (muK K).K.length = K.length from rfl] at U
      have hat : ((768 - K.length : Nat) : Int) = 768 - (S.size : Int) := by omega
      have hsz : (S.size : Int) = (K.length : Int) := by omega
      have htx : textB (((endM (muK K)).B.drop (768 - K.length)).take K.length) = S := by
        have h := splice_back (muK K).B (768 - K.length) K (by rw [muK_len]; omega)
        rw [HS.out]
        show textB (((splice (muK K).B (endAt (muK K)) K).drop (768 - K.length)).take K.length) = _
        rw [endK K, h]
        rfl
      have hlen : (endM (muK K)).B.length = 1024 := by
        show (splice (muK K).B (endAt (muK K)) K).length = 1024
        rw [endK K, splice_len (by rw [muK_len]; omega), muK_len]
      have HE := Lib.hid (And.intro hkl (And.intro htx hlen))
      have hI := two_in (x := ((768 - K.length : Nat) : Int)) (y := (K.length : Int)) (by unfold I64; omega) (by unfold I64; omega)
      generalize endM (muK K) = μE at U HE htx hlen
      have HD := Lib.hid (HX.out.2.ok (R := []) (X := [0, 0]) (n := 107) (by decide) rfl U hI (by simp))
      obtain ⟨o, ho⟩ : ∃ o, o = 768 - K.length := ⟨_, rfl⟩
      rw [← ho] at HD HE hat
      have HO := Lib.hid (show o + K.length ≤ 1024 by omega)
      clear U hI htx hlen ho hss HX
      go_wp2_with fail
      refine (HD.out).mono ?_
      rintro e w7 ⟨rfl, h7⟩
      have H7 := Lib.hid (show Lv w w7 a [] [(o : Int), (K.length : Int)] μE from h7)
      clear h7 HD
      go_wp2_with fail
      refine (H7.out.stack).mono ?_
      rintro e w8 ⟨rfl, rfl⟩
      go_wp2_with fail
      refine (H7.out.all).mono ?_
      rintro e w8 ⟨b, c, rfl, hw, h8, hm⟩
      have H8 := Lib.hid (H7.out.far hm)
      have g0 : w8.cell? ⟨b, 0, none⟩ = some (.int .i64 (o : Int)) := hw.cell 0 (by simp)
      have g1 : w8.cell? ⟨b, 1, none⟩ = some (.int .i64 (K.length : Int)) := hw.cell 1 (by simp)
      have ht := H8.out.text o K.length (by rw [HE.out.2.2]; exact HO.out)
      rw [HE.out.2.1] at ht
      have HT := Lib.hid ht
      clear hw h8 hm H7 ht
      rw [← hsz] at g1 HT
      have hwo : wrap64 (768 - (K.length : Int)) = 768 - (K.length : Int) := by have := HO.out; unfold wrap64; omega
      have hat2 : (o : Int) = 768 - (K.length : Int) := by omega
      rw [hat2] at g0
      rw [hsz] at g1
      have mD : Mod [] w8 w8.drew := (Mod.refl [] w8).drew
      have HM := Lib.hid (H8.out.far mD).memo
      have HT2 := Lib.hid (show Calls Tryz.prog 17 #[Pt a.m, .int .i64 (768 - (K.length : Int)), .int .i64 (K.length : Int)] w8.drew fun e w' => e = .returned (.tuple #[.string S, .int .i64 0]) ∧ w8.drew = w' by
        have := (H8.out.far mD).text o K.length (by rw [HE.out.2.2]; exact HO.out)
        rw [HE.out.2.1, hat2] at this
        exact this)
      have d0 := mD.cell (x := ⟨b, 0, none⟩) (by simp) g0
      have d1 := mD.cell (x := ⟨b, 1, none⟩) (by simp) g1
      clear mD HT
      go_wp2_with fail
      go_region_held3 (fun W => W.cell? ⟨b, 0, none⟩ = some (.int .i64 (768 - (K.length : Int))) ∧ W.cell? ⟨b, 1, none⟩ = some (.int .i64 (K.length : Int))) (first | with_reducible exact ⟨d0, d1⟩ | fail) (first | ((with_reducible refine (HM.out).mono ?_); rintro e w9 ⟨rfl, rfl⟩) | ((with_reducible refine (HT2.out).mono ?_); rintro e w9 ⟨rfl, rfl⟩) | fail)
      all_goals
        go_wp2
        go_ret
        exact ⟨rfl, H8.out.mod.far (Mod.refl [] w8).drew⟩
end Go.Proofs.YtegcecpmdgljpaaGreatDoor
