/- Layer 13: the base is put; a number is made digit by digit. Condition: numbers are of their kinds. -/
import Derived.Test.YtegcecpmdgljpaaGreatDoorVE
namespace Go.Proofs.YtegcecpmdgljpaaGreatDoor
open Go.RowKit
set_option linter.unusedVariables false

/-- The state's rest where the base is x. -/
def muB (x : Int) : Mu := { mu0 1024 with B := splice (mu0 1024).B 0 (le8 x) }
theorem zeros_len (n : Nat) : (zeros n).length = n := by simp [zeros]
theorem mu0_len : (mu0 1024).B.length = 1024 := by
  show (splice (zeros 1024) 0 (le8 10)).length = 1024
  rw [splice_len (by rw [zeros_len]; show 0 + 8 ≤ 1024; omega), zeros_len]
theorem muB_len (x : Int) : (muB x).B.length = 1024 := by
  show (splice (mu0 1024).B 0 (le8 x)).length = 1024
  rw [splice_len (by rw [mu0_len]; simp [le8]), mu0_len]
theorem muB_base (x : Int) (hx : I64 x) : baseC (muB x) = x := by
  have e : (muB x).B.take 8 = le8 x := by
    show (splice (mu0 1024).B 0 (le8 x)).take 8 = le8 x
    unfold splice
    simp [le8]
  unfold baseC
  rw [e]
  exact cellOf_le8 hx
theorem putbase (x : Int) (hx : I64 x) : Uni 74 2 [x, 0] (mu0 1024) [] 0 (muB x) :=
  act_74_of x 0 0 _ _ (mu0 1024) (MT.kept fun W p q m => mput_ok m 0 x hx (by rw [mu0_len]; omega) (by omega))
theorem sign_uni (x : Int) (μ : Mu) (h : μ.K.length < 200) : Uni 106 1 [x] μ [] 0 { μ with K := if x < 0 then 45 :: μ.K else μ.K } := by
  have U := act_106_of x _ μ _ fun W a T R h => holdsign_calls x h
  unfold signE signM holdE holdM at U
  by_cases hn : x < 0
  · rw [if_pos hn, if_pos hn, if_neg (by omega), if_neg (by omega)] at U
    rw [if_pos hn]
    exact U
  · rw [if_neg hn, if_neg hn] at U
    rw [if_neg hn]
    exact U
theorem digits_uni (x y : Int) (hx : I64 x) (hy : I64 y) (μ : Mu) (B P : Nat) (hP : W x y = (P : Int)) (hB : baseC μ = (B : Int)) (h2 : 2 ≤ B) (h36 : B ≤ 36) (hl : (text B P ++ μ.K).length ≤ 200) : Uni 104 2 [x, y] μ [0, 0] 0 { μ with K := text B P ++ μ.K } :=
  act_104_of x y _ _ μ _ fun W a T R h => by
    have := convall_ok hx hy B P hP hB h2 h36 h
    unfold allR at this
    rw [if_neg (by omega)] at this
    exact this
theorem end_uni (x y : Int) (μ : Mu) : Uni 107 2 [x, y] μ [(endAt μ : Int), (μ.K.length : Int)] 0 (endM μ) := act_107_of x y _ _ μ _ fun W a T R h => end_calls h
theorem splice_back (B : List UInt8) (o : Nat) (l : List UInt8) (h : o + l.length ≤ B.length) : ((splice B o l).drop o).take l.length = l := by
  unfold splice
  rw [List.append_assoc, List.drop_append_of_le_length (by simp; omega)]
  simp
theorem type_uni (μ : Mu) (hl : μ.B.length = 1024) (hk : μ.K.length ≤ 200) : Uni 98 2 [(endAt μ : Int), (μ.K.length : Int)] (endM μ) [] 0 { endM μ with O := sayL μ.O (str μ.K) } :=
  act_98_of _ _ _ _ (endM μ) _ fun W a T R h => by
    have ho : endAt μ + μ.K.length ≤ μ.B.length := by unfold endAt; omega
    have e : textB (((endM μ).B.drop (endAt μ)).take μ.K.length) = str μ.K := by
      show textB (((splice μ.B (endAt μ) μ.K).drop (endAt μ)).take μ.K.length) = _
      rw [splice_back _ _ _ ho]
      rfl
    have hlen : (endM μ).B.length = μ.B.length := splice_len ho
    have H : MT 17 [.int .i64 (endAt μ : Int), .int .i64 (μ.K.length : Int)] (.tuple #[.string (str μ.K), .int .i64 0]) (endM μ).B (endM μ).h (endM μ).B (endM μ).h := MT.same fun W p q m => by
      have := text_ok m (endAt μ) μ.K.length (by rw [hlen]; exact ho)
      rw [e] at this
      exact this
    exact stored_ok H (by rw [str_size]; omega) h
end Go.Proofs.YtegcecpmdgljpaaGreatDoor
