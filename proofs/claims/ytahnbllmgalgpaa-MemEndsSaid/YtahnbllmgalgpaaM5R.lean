/- Layer 5: MemCommas's walk. Condition: the arguments are slices of numbers of their kinds. -/
import Derived.Test.YtahnbllmgalgpaaM5Q
import Derived.RegionTactic
import Derived.BigRegion
namespace Go.Proofs.Ytahnbllmgalgpaa
open Go.RowKit Go.ChangeShapes
set_option linter.unusedVariables false

def fl (X : List Int) : List UInt8 := X.flatMap le8
theorem fl_len (X : List Int) : (fl X).length = 8 * X.length := by
  induction X with
  | nil => rfl
  | cons x r ih =>
    show (le8 x ++ fl r).length = _
    rw [List.length_append, ih, le8_len, List.length_cons]
    omega
theorem fl_take (X : List Int) (j : Nat) (hj : j < X.length) : fl (X.take (j + 1)) = fl (X.take j) ++ le8 X[j] := by
  unfold fl
  rw [List.take_succ_eq_append_getElem hj, List.flatMap_append]
  simp
theorem fl_cell (X : List Int) (R : List UInt8) (j : Nat) (hj : j < X.length) : ((fl X ++ R).drop (8 * j)).take 8 = le8 X[j] := by
  induction X generalizing j with
  | nil => simp at hj
  | cons x r ih =>
    have e : fl (x :: r) ++ R = le8 x ++ (fl r ++ R) := by show (le8 x ++ fl r) ++ R = _; rw [List.append_assoc]
    rw [e]
    cases j with
    | zero =>
      rw [Nat.mul_zero, List.drop_zero, List.take_append_of_le_length (by rw [le8_len]; omega)]
      exact List.take_of_length_le (by rw [le8_len]; omega)
    | succ j =>
      have h8 := le8_len x
      rw [show 8 * (j + 1) = (le8 x).length + 8 * j by rw [h8]; omega, ← List.drop_drop, List.drop_left]
      exact ih j (by simpa using hj)
theorem splice_join {B F G : List UInt8} (h : F.length + G.length ≤ B.length) : splice (splice B 0 F) F.length G = splice B 0 (F ++ G) := by
  have h1 := splice_len (B := B) (o := 0) (l := F) (by omega)
  apply List.ext_getElem?
  intro i
  rw [splice_get (by omega), splice_get (by omega), splice_get (by simp; omega), List.length_append]
  by_cases a : i < F.length
  · rw [if_neg (by omega), if_pos (by omega), if_pos (by omega), Nat.sub_zero, List.getElem?_append_left a]
  · by_cases b : i < F.length + G.length
    · rw [if_pos (by omega), if_pos (by omega), Nat.sub_zero, List.getElem?_append_right (by omega)]
    · rw [if_neg (by omega), if_neg (by omega), if_neg (by omega)]
theorem splice_drop {B F : List UInt8} (h : F.length ≤ B.length) (o n : Nat) (hn : o + n ≤ F.length) : ((splice B 0 F).drop o).take n = (F.drop o).take n := by
  unfold splice
  rw [List.take_zero, List.nil_append, List.drop_append_of_le_length (by omega), List.take_append_of_le_length (by simp; omega)]
theorem comma_on {w : World} {p q : Nat} {F : List UInt8} (B : List UInt8) (h : Int) (x : Int) (hx : I64 x) (m : Mm w p q (splice B 0 F) h) (hF : h = (F.length : Int)) (h8 : F.length % 8 = 0) (hb : F.length + 8 + 512 ≤ B.length) :
    Calls Try.prog 28 #[Pt p, .int .i64 x] w fun e w' => e = .returned (.int .i64 0) ∧ Mm w' p q (splice B 0 (F ++ le8 x)) (h + 8) ∧ Kept p q w w' := by
  have h8l := le8_len x
  have e := splice_join (B := B) (F := F) (G := le8 x) (by omega)
  have hl := splice_len (B := B) (o := 0) (l := F) (by omega)
  have := comma_neg m F.length x hx hF h8 (by rw [hl]; omega)
  rw [e] at this
  exact this
theorem ccomma_on {w : World} {p q : Nat} {F : List UInt8} (B : List UInt8) (h : Int) (c : UInt8) (m : Mm w p q (splice B 0 F) h) (hF : h = (F.length : Int)) (hb : F.length + 1 + 512 ≤ B.length) :
    Calls Try.prog 29 #[Pt p, .int .u8 (c.toNat : Int)] w fun e w' => e = .returned (.int .i64 0) ∧ Mm w' p q (splice B 0 (F ++ [c])) (h + 1) ∧ Kept p q w w' := by
  have e := splice_join (B := B) (F := F) (G := [c]) (by simp; omega)
  have hl := splice_len (B := B) (o := 0) (l := F) (by omega)
  have := ccomma_ok m c (by unfold inH; rw [hl]; exact decide_eq_true ⟨by omega, by omega⟩)
  rw [show h.toNat = F.length by omega, e] at this
  exact this
theorem Row.cells {w : World} {A : Option Addr} {len cap : Nat} {zs : List Int} (R : Row .i64 w A len cap zs) (k : Nat) (hk : k ≤ len) :
    ∃ X : List Int, X.length = k ∧ ∀ j (hj : j < X.length), ∃ b off, A = some ⟨b, off, none⟩ ∧ w.cell? ⟨b, off + j, none⟩ = some (.int .i64 X[j]) ∧ I64 X[j] := by
  refine ⟨(List.range k).map fun j => zs.getD j 0, by simp, fun j hj => ?_⟩
  have hj' : j < k := by simpa using hj
  obtain ⟨b, off, e, hc, hwf⟩ := R.nums j (by omega)
  refine ⟨b, off, e, ?_, ?_⟩
  · rw [hc]; simp
  · have := i64_of_wf hwf; simpa using this
theorem Row.octets {w : World} {A : Option Addr} {len cap : Nat} {zs : List Int} (R : Row .u8 w A len cap zs) (k : Nat) (hk : k ≤ len) :
    ∃ Y : List UInt8, Y.length = k ∧ Lies w A Y ∧ ∀ j (hj : j < Y.length), ∃ b off, A = some ⟨b, off, none⟩ ∧ w.cell? ⟨b, off + j, none⟩ = some (.int .u8 (Y[j].toNat : Int)) := by
  refine ⟨(List.range k).map fun j => UInt8.ofNat (zs.getD j 0).toNat, by simp, fun j hj => ?_, fun j hj => ?_⟩
  · have hj' : j < k := by simpa using hj
    obtain ⟨b, off, e, hc, hwf⟩ := R.nums j (by omega)
    have hu := u8_nat hwf
    refine ⟨_, e, ?_⟩
    rw [Go.WideShapes.add_plain, hc]
    simp only [List.getElem_map, List.getElem_range]
    rw [hu]
  · have hj' : j < k := by simpa using hj
    obtain ⟨b, off, e, hc, hwf⟩ := R.nums j (by omega)
    have hu := u8_nat hwf
    refine ⟨b, off, e, ?_⟩
    rw [hc]
    simp only [List.getElem_map, List.getElem_range]
    rw [hu]
theorem Try.sizeCell : ∀ w, (Go.sizeOf 33).run Try.prog w = .ok 1 w := fun w => by kernel_rfl
set_option maxHeartbeats 4000000 in
set_option maxRecDepth 100000 in
theorem commas_walk (w : World) (A : Option Addr) (len cap : Nat) (zs : List Int) (A2 : Option Addr) (len2 cap2 : Nat) (zs2 : List Int) (R0 : Row .i64 w A len cap zs) (R2 : Row .u8 w A2 len2 cap2 zs2) :
    Calls Try.prog 9 #[.slice A len cap, .slice A2 len2 cap2] w fun e w' => e = .returned (.bool true) ∧ Ext w w' := by
  have hle := R0.le
  have hle2 := R2.le
  obtain ⟨k, hk⟩ : ∃ k, k = min len 20 := ⟨_, rfl⟩
  obtain ⟨n, hn⟩ : ∃ k, k = min len2 20 := ⟨_, rfl⟩
  have hk1 : k ≤ 20 := by omega
  have hn1 : n ≤ 20 := by omega
  have HKK := Lib.hid (And.intro hk hn)
  obtain ⟨X, hXl, hXc⟩ := R0.cells k (by omega)
  obtain ⟨Y, hYl, hYL, hYc⟩ := R2.octets n (by omega)
  have HX := Lib.hid hXc
  have HY := Lib.hid hYc
  have HYL := Lib.hid hYL
  have HXl := Lib.hid hXl
  have HYl := Lib.hid hYl
  have s1 := Lib.hid fun W => slice_upto W 66 33 Try.underlying66 Try.sizeCell A len cap len (by omega)
  have s2 := Lib.hid (show ∀ W, ¬ (len : Int) ≤ 20 → (Instr.sliceAt 66 (.slice A len cap) none (some (.int .i64 20)) none).run Try.prog W = .ok (.slice A 20 cap) W from fun W (h : ¬ (len : Int) ≤ 20) => slice_upto W 66 33 Try.underlying66 Try.sizeCell A len cap 20 (by omega))
  have s3 := Lib.hid fun W => slice_upto W 38 5 Try.underlying38 Try.sizeByte A2 len2 cap2 len2 (by omega)
  have s4 := Lib.hid (show ∀ W, ¬ (len2 : Int) ≤ 20 → (Instr.sliceAt 38 (.slice A2 len2 cap2) none (some (.int .i64 20)) none).run Try.prog W = .ok (.slice A2 20 cap2) W from fun W (h : ¬ (len2 : Int) ≤ 20) => slice_upto W 38 5 Try.underlying38 Try.sizeByte A2 len2 cap2 20 (by omega))
  clear R0 R2 hk hn hXl hXc hYl hYc hYL
  have hS := Lib.hid (shown_calls w)
  go_enter Try.func9, Try.ntmps9
  go_wp2_with fail
  refine (hS.out).mono ?_
  rintro e w0 ⟨rfl, hx0⟩
  have hN := Lib.hid (new_lit 1024 1024 rfl w0 (by omega) (by omega) (by omega))
  go_wp2_with fail
  refine (hN.out).mono ?_
  rintro e w1 ⟨p, q, rfl, hm, hx1, hp, hq⟩
  have hX := hx0.trans hx1
  have HP := Lib.hid (And.intro (Nat.le_trans hx0.1.size hp) (Nat.le_trans hx0.1.size hq))
  clear hx0 hx1 hN hS hp hq
  have h1 := s1.out
  have h2 := s2.out
  have h3 := s3.out
  have h4 := s4.out
  go_upto_region 5 with fail
  go_cut [8, 9] (fun a b wx => a = .slice A k cap ∧ b = .slice A2 n cap2 ∧ wx = w1.drew)
  case first =>
    go_region
    all_goals go_wp2
    all_goals
      go_meet
      have e := HKK.out
      first
      | (have e1 : k = len := by omega
         have e2 : n = len2 := by omega
         subst e1 e2; exact ⟨rfl, rfl, rfl⟩)
      | (have e1 : k = len := by omega
         have e2 : n = 20 := by omega
         subst e1 e2; exact ⟨rfl, rfl, rfl⟩)
      | (have e1 : k = 20 := by omega
         have e2 : n = len2 := by omega
         subst e1 e2; exact ⟨rfl, rfl, rfl⟩)
      | (have e1 : k = 20 := by omega
         have e2 : n = 20 := by omega
         subst e1 e2; exact ⟨rfl, rfl, rfl⟩)
  case rest =>
    obtain ⟨rfl, rfl, rfl⟩ := hcut
    clear h1 h2 h3 h4 s1 s2 s3 s4 HKK
    replace hm := hm.drew
    replace hX := hX.drew
    obtain ⟨w2, hw2⟩ : ∃ w2, w2 = w1.drew := ⟨_, rfl⟩
    rw [← hw2] at hm hX ⊢
    clear hw2
    have HZ := Lib.hid (show (zeros 1024).length = 1024 from List.length_replicate)
    have hm0 : Mm w2 p q (splice (zeros 1024) 0 (fl (X.take 0))) 0 := by
      have e : fl (X.take 0) = [] := by simp [fl]
      rw [e, splice_nil]
      exact hm
    clear hm
    go_wp2_with fail
    go_loopw [45] (fun i wr => ∃ j : Nat, j ≤ k ∧ i = .int .i64 j ∧ Mm wr p q (splice (zeros 1024) 0 (fl (X.take j))) (8 * (j : Int)) ∧ Ext w wr) (fun i _ => k - (intOf i).toNat)
    case atStart => exact ⟨0, by omega, rfl, hm0, hX⟩
    case round =>
      clear hm0 hX
      obtain ⟨j, hj, rfl, hm, hX⟩ := hrel
      by_cases hlt : j < k
      · obtain ⟨b, off, rfl, hc, hI⟩ := HX.out j (by rw [HXl.out]; exact hlt)
        have hcw := ext_keeps hX hc
        have hF : (fl (X.take j)).length = 8 * j := by rw [fl_len]; have := HXl.out; simp; omega
        have hcm := comma_on (zeros 1024) (8 * (j : Int)) _ hI hm (by rw [hF]; omega) (by rw [hF]; omega) (by rw [hF, HZ.out]; omega)
        rw [← fl_take X j (by rw [HXl.out]; exact hlt)] at hcm
        obtain ⟨x, hx⟩ : ∃ x, x = X[j]'(by rw [HXl.out]; exact hlt) := ⟨_, rfl⟩
        rw [← hx] at hcm hcw
        have HC := Lib.hid hcm
        have HXX := Lib.hid hX
        clear hcm hm hX hc hI hx hF HX HY HYL
        go_wp2_with fail
        refine (HC.out).mono ?_
        rintro e w3 ⟨rfl, hm, hkp⟩
        have HM := Lib.hid hm
        have HX2 := Lib.hid (HXX.out.kept hkp HP.out.1 HP.out.2)
        clear HC hm hkp HXX hcw
        go_wp2_with fail
        go_roundw
        case rel => exact ⟨j + 1, by omega, by go_num, (show 8 * ((j + 1 : Nat) : Int) = 8 * (j : Int) + 8 by omega) ▸ HM.out, HX2.out⟩
        case measure => simp [intOf]; omega
      · have hk2 : j = k := by omega
        subst hk2
        clear hj hlt
        rw [List.take_of_length_le (by rw [HXl.out]; omega)] at hm
        have hm0 : Mm wr p q (splice (zeros 1024) 0 (fl X ++ Y.take 0)) (8 * (j : Int) + ((0 : Nat) : Int)) := by
          rw [List.take_zero, List.append_nil]
          exact (show 8 * (j : Int) = 8 * (j : Int) + ((0 : Nat) : Int) by omega) ▸ hm
        have HF := Lib.hid (show (fl X).length = 8 * j by rw [fl_len, HXl.out])
        have HM0 := Lib.hid hm0
        have HX0 := Lib.hid hX
        clear hm hX hm0
        go_wp2_with fail
        go_loopw [56] (fun i wr => ∃ t : Nat, t ≤ n ∧ i = .int .i64 t ∧ Mm wr p q (splice (zeros 1024) 0 (fl X ++ Y.take t)) (8 * (j : Int) + (t : Int)) ∧ Ext w wr) (fun i _ => n - (intOf i).toNat)
        case atStart => exact ⟨0, by omega, rfl, HM0.out, HX0.out⟩
        case round =>
          clear HM0 HX0
          obtain ⟨t, ht, rfl, hm, hX⟩ := hrel
          by_cases hlt : t < n
          · obtain ⟨b, off, rfl, hc⟩ := HY.out t (by rw [HYl.out]; exact hlt)
            have hcw := ext_keeps hX hc
            have hty : t < Y.length := by rw [HYl.out]; exact hlt
            have hF : (fl X ++ Y.take t).length = 8 * j + t := by rw [List.length_append, HF.out]; simp; omega
            have hcm := ccomma_on (zeros 1024) (8 * (j : Int) + (t : Int)) Y[t] hm (by rw [hF]; omega) (by rw [hF, HZ.out]; omega)
            rw [List.append_assoc, ← List.take_succ_eq_append_getElem hty] at hcm
            obtain ⟨c, hc2⟩ : ∃ c, c = Y[t] := ⟨_, rfl⟩
            rw [← hc2] at hcm hcw
            have HC := Lib.hid hcm
            have HXX := Lib.hid hX
            clear hcm hm hX hc hc2 hF HX HY HYL hty
            go_wp2_with fail
            refine (HC.out).mono ?_
            rintro e w3 ⟨rfl, hm, hkp⟩
            have HM := Lib.hid hm
            have HX2 := Lib.hid (HXX.out.kept hkp HP.out.1 HP.out.2)
            clear HC hm hkp HXX hcw
            go_wp2_with fail
            go_roundw
            case rel => exact ⟨t + 1, by omega, by go_num, (show 8 * (j : Int) + ((t + 1 : Nat) : Int) = 8 * (j : Int) + (t : Int) + 1 by omega) ▸ HM.out, HX2.out⟩
            case measure => simp [intOf]; omega
          · have hk2 : t = n := by omega
            subst hk2
            clear ht hlt
            rw [List.take_of_length_le (by rw [HYl.out]; omega)] at hm
            have HFL := Lib.hid (show (fl X ++ Y).length = 8 * j + t by rw [List.length_append, HF.out, HYl.out])
            have HM := Lib.hid hm
            have HX1 := Lib.hid hX
            clear hm hX
            go_wp2_with fail
            go_loop [67] (fun i => ∃ r : Nat, r ≤ j ∧ i = .int .i64 r) (fun i => j - (intOf i).toNat)
            case atStart => exact ⟨0, by omega, rfl⟩
            case round =>
              obtain ⟨r, hr, rfl⟩ := hrel
              by_cases hlt : r < j
              · obtain ⟨b, off, rfl, hc, hI⟩ := HX.out r (by rw [HXl.out]; exact hlt)
                have hcw := ext_keeps HX1.out hc
                have hg := get_lit HM.out (8 * r) (8 * (r : Int)) (by omega) (by rw [splice_len (by rw [HFL.out, HZ.out]; omega), HZ.out]; omega) (by omega)
                rw [splice_drop (by rw [HFL.out, HZ.out]; omega) _ _ (by rw [HFL.out]; omega), fl_cell X Y r (by rw [HXl.out]; exact hlt), cellOf_le8 hI] at hg
                obtain ⟨x, hx⟩ : ∃ x, x = X[r]'(by rw [HXl.out]; exact hlt) := ⟨_, rfl⟩
                rw [← hx] at hg hcw
                have HG := Lib.hid hg
                clear hg hx hI hc HX HY HYL
                go_wp2_with ((with_reducible refine (HG.out).mono ?_); rintro e w' ⟨rfl, rfl⟩)
                go_round
                case rel => exact ⟨r + 1, by omega, by go_num⟩
                case measure => simp [intOf]; omega
              · have hk2 : r = j := by omega
                subst hk2
                clear hr hlt
                have ht := text_ok HM.out (8 * r) t (by rw [splice_len (by rw [HFL.out, HZ.out]; omega), HZ.out]; omega)
                have e1 : (fl X ++ Y).drop (8 * r) = Y := by rw [← HF.out, List.drop_left]
                rw [splice_drop (by rw [HFL.out, HZ.out]; omega) _ _ (by rw [HFL.out]; omega), e1, List.take_of_length_le (by rw [HYl.out]; omega)] at ht
                obtain ⟨S, hS⟩ : ∃ S, S = textB Y := ⟨_, rfl⟩
                rw [← hS] at ht
                have hcv : ∀ W, Ext w W → (convert 38 9 (.slice A2 t cap2)).run Try.prog W = .ok (.string S) W := fun W hW => by
                  have := conv_lies (HYL.out.ext hW) t cap2 (by rw [HYl.out]; omega)
                  rw [List.take_of_length_le (by rw [HYl.out]; omega), ← hS] at this
                  exact this
                have HT := Lib.hid (show Calls Try.prog 23 #[Pt p, .int .i64 (8 * (r : Int)), .int .i64 (t : Int)] wr fun e w' => e = .returned (.tuple #[.string S, .int .i64 0]) ∧ wr = w' from (show 8 * (r : Int) = ((8 * r : Nat) : Int) by omega) ▸ ht)
                have HCV := Lib.hid hcv
                have HH := Lib.hid (here_calls HM.out)
                have hss : (S.toList == S.toList) = true := by simp
                clear ht e1 hS hcv HX HY HYL
                go_wp2_with fail
                refine (HT.out).mono ?_
                rintro e w' ⟨rfl, rfl⟩
                go_wp2_with fail
                refine (HH.out).mono ?_
                rintro e w' ⟨rfl, rfl⟩
                by_cases h8 : t % 8 = 0
                · have HC := Lib.hid (comma_on (zeros 1024) (8 * (r : Int) + (t : Int)) 7 (by unfold I64; omega) HM.out (by rw [HFL.out]; omega) (by rw [HFL.out]; omega) (by rw [HFL.out, HZ.out]; omega))
                  have e8 : ((t : Int) % 8 == 0) = true := by rw [beq_iff_eq]; omega
                  clear h8
                  go_wp2_with fail
                  refine (HC.out).mono ?_
                  rintro e w4 ⟨rfl, hm, hkp⟩
                  have hX4 := HX1.out.kept hkp HP.out.1 HP.out.2
                  have hcv := HCV.out w4 hX4
                  have HX4 := Lib.hid hX4
                  clear hm hkp hX4 HC HH HT HM HX1
                  go_wp2
                  go_ret
                  exact ⟨rfl, HX4.out⟩
                · have HC := Lib.hid (comma_off HM.out 7 (by omega))
                  have e8 : ((t : Int) % 8 == 0) = false := by rw [beq_eq_false_iff_ne]; omega
                  have hcv := HCV.out wr HX1.out
                  clear h8
                  go_wp2_with (first | ((with_reducible refine (HC.out).mono ?_); rintro e w' ⟨rfl, rfl⟩) | ((with_reducible refine (HH.out).mono ?_); rintro e w' ⟨rfl, rfl⟩))
                  go_ret
                  exact ⟨rfl, HX1.out⟩
end Go.Proofs.Ytahnbllmgalgpaa
