/- Layer 4: RealTexts's walk. Conditions: the cell is an integer of 64 bits; Go's library's variables hold what their texts lay. -/
import Derived.Test.YthmdobajilladaaDoorR4ZD
import Derived.Test.YthmdobajilladaaDoorR4K
namespace Go.Proofs.YthmdobajilladaaDoor
open Go.RowKit
set_option linter.unusedVariables false

theorem both_text4 (f : Int) (hf64 : I64 f) (w : World) (g : GoodN w) : ∃ T : ByteArray, From w 11 #[.int .i64 f] (.string T) ∧ From w 12 #[.int .i64 f] (.string T) := by
  rcases fbits_split f with n | ⟨s, r, hx, hi⟩
  · exact ⟨_, From.far (text_nan f n), From.ext (rtext_nan f hf64 n)⟩
  · exact ⟨_, From.good g.good (text_word f s r hx hi), From.ext (rtext_word f hf64 s r hx hi)⟩
theorem bs_self (t : ByteArray) : bs t.data.toList = t := by cases t; rfl
set_option maxRecDepth 100000 in
theorem texts_walk (f : Int) (hf64 : I64 f) (s : ByteArray) (hs : s.size ≤ maxLen) (w : World) (g : GoodN w) :
    Calls Tryd.prog 3 #[.int .i64 f, .string s] w fun e w' => e = .returned (.bool true) ∧ Far w w' := by
  have HSH := Lib.hid (From.good g.good (shown4_calls) (w := w))
  have hf := Far.refl w
  obtain ⟨T, hT1, hT2⟩ := both_text4 f hf64 w g
  have T1 := Lib.hid hT1
  have T2 := Lib.hid hT2
  obtain ⟨t, ht⟩ : ∃ t, t = s.extract 0 (min s.size 100) := ⟨_, rfl⟩
  have htl : t.data.toList.length ≤ 1000 := by
    rw [← Lib.size_eq, ht, ByteArray.size_extract]
    omega
  have n1 := From.goodn g (number_calls t.data.toList htl) (w := w)
  have n2 := From.ext (rnumber4 t.data.toList htl) (w := w)
  rw [bs_self] at n1 n2
  obtain ⟨R, hR⟩ : ∃ R, R = numR t.data.toList := ⟨_, rfl⟩
  rw [← hR] at n1 n2
  obtain ⟨x, b⟩ := R
  have N1 := Lib.hid (show From w 9 #[.string t] (.tuple #[.int .i64 x, .bool b]) from n1)
  have N2 := Lib.hid (show From w 10 #[.string t] (.tuple #[.int .i64 x, .bool b]) from n2)
  have tt : (T.toList == T.toList) = true := by simp
  have HT := Lib.hid ht
  unfold maxLen at hs
  clear hT1 hT2 htl n1 n2 hR g ht
  go_enter Tryd.func3, Tryd.ntmps3
  go_wp2_with fail
  refine (HSH.out _ hf).mono ?_
  rintro e w1 ⟨rfl, hf1⟩
  clear hf HSH
  go_upto_region 2 with fail
  go_cut [6] (fun u wx => u = .string t ∧ w1 = wx)
  case first =>
    go_wp2_with fail
    all_goals
      go_meet
      have e : (min (s.size : Int) 100).toNat = min s.size 100 := by omega
      exact ⟨str_res (by rw [e, HT.out]), rfl⟩
  case rest =>
    obtain ⟨rfl, rfl⟩ := hcut
    go_wp2_with (first | ((with_reducible refine (T1.out _ ?_).mono ?_); assumption; rintro e w' ⟨rfl, hf⟩) | ((with_reducible refine (T2.out _ ?_).mono ?_); assumption; rintro e w' ⟨rfl, hf⟩) | ((with_reducible refine (N1.out _ ?_).mono ?_); assumption; rintro e w' ⟨rfl, hf⟩) | ((with_reducible refine (N2.out _ ?_).mono ?_); assumption; rintro e w' ⟨rfl, hf⟩))
    go_ret
    exact ⟨by simp, by assumption⟩
end Go.Proofs.YthmdobajilladaaDoor
