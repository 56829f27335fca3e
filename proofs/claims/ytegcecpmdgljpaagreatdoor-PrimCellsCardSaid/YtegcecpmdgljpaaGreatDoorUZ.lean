/- Layer 13: each operation does something that is known, or ends with an error and leaves all as it was. Condition: cells are cells. -/
import Derived.Test.YtegcecpmdgljpaaGreatDoorUY
namespace Go.Proofs.YtegcecpmdgljpaaGreatDoor
open Go.RowKit Ieee
set_option linter.unusedVariables false

theorem len0 {X : List Int} (h : X.length = 0) : X = [] := List.length_eq_zero_iff.1 h
theorem len1 {X : List Int} (h : X.length = 1) : ∃ x, X = [x] := List.length_eq_one_iff.1 h
theorem len2 {X : List Int} (h : X.length = 2) : ∃ x y, X = [x, y] := match X, h with | [x, y], _ => ⟨x, y, rfl⟩
theorem len3 {X : List Int} (h : X.length = 3) : ∃ x y z, X = [x, y, z] := match X, h with | [x, y, z], _ => ⟨x, y, z, rfl⟩
theorem len4 {X : List Int} (h : X.length = 4) : ∃ x y z u, X = [x, y, z, u] := match X, h with | [x, y, z, u], _ => ⟨x, y, z, u, rfl⟩
variable {μ : Mu}
theorem any_ok {n : Int} {k : Nat} {X P : List Int} {e : Int} {μ : Mu} (U : Uni n k X μ P e μ) (he : e ≠ 1) (hP : P.length ≤ 2) (hI : ∀ x ∈ P, I64 x) : Any n k X μ := ⟨P, e, μ, U, he, fun _ => rfl, hP, fun _ => rfl, hI⟩
theorem any_say {n : Int} {k : Nat} {X : List Int} {μ μ' : Mu} (U : Uni n k X μ [] 0 μ') : Any n k X μ := ⟨[], 0, μ', U, by decide, fun e => absurd rfl e, by simp, by simp, by simp⟩
theorem any_er {n : Int} {k : Nat} {X : List Int} {e : Int} {μ : Mu} (U : Uni n k X μ [] e μ) (he : e ≠ 1) : Any n k X μ := any_ok U he (by simp) (by simp)
theorem two_in {x y : Int} (hx : I64 x) (hy : I64 y) : ∀ z ∈ [x, y], I64 z := by simp; exact ⟨hx, hy⟩
theorem one_in {x : Int} (hx : I64 x) : ∀ z ∈ [x], I64 z := by simp; exact hx
theorem base_cases (μ : Mu) : (baseE μ = -40) ∨ ∃ B : Nat, baseC μ = (B : Int) ∧ 2 ≤ B ∧ B ≤ 36 ∧ baseE μ = 0 := by
  unfold baseE
  by_cases h : 2 ≤ baseC μ ∧ baseC μ ≤ 36
  · right; exact ⟨(baseC μ).toNat, by omega, by omega, by omega, if_pos h⟩
  · left; exact if_neg h
theorem any_c1 (n x : Int) (hn : 1 ≤ n ∧ n ≤ 10) (hx : I64 x) : Any n 1 [x] μ := any_ok (act_c1 n x hn μ) (by decide) (by simp) (one_in (oneV_i64 n x hx))
theorem any_c2 (n x y : Int) (hn : 11 ≤ n ∧ n ≤ 27) (hx : I64 x) (hy : I64 y) : Any n 2 [x, y] μ := any_ok (act_c2 n x y hn μ) (by unfold twoE; rw [if_neg (by omega)]; split <;> decide) (by simp) (one_in (twoV_i64 n x y hx hy))
theorem any_r1 (n x : Int) (hn : 61 ≤ n ∧ n ≤ 62) : Any n 1 [x] μ := any_ok (act_r1 n x hn μ) (by decide) (by simp) (one_in (real1V_i64 _ _))
theorem any_r2 (n x y : Int) (hn : 63 ≤ n ∧ n ≤ 70) : Any n 2 [x, y] μ := any_ok (act_r2 n x y hn μ) (by decide) (by simp) (one_in (realV_i64 _ _ _))
theorem any_43 (x : Int) (hx : I64 x) : Any 43 1 [x] μ := any_ok (act_43 x hx μ) (by decide) (by simp) (two_in (lo_i64 _) (hi_i64 _))
theorem any_44 (x y z u : Int) (hx : I64 x) (hy : I64 y) (hz : I64 z) (hu : I64 u) : Any 44 4 [x, y, z, u] μ := any_ok (act_44 x y z u hx hy hz hu μ) (by decide) (by simp) (two_in (lo_i64 _) (hi_i64 _))
theorem any_45 (x y z u : Int) (hx : I64 x) (hy : I64 y) (hz : I64 z) (hu : I64 u) : Any 45 4 [x, y, z, u] μ := any_ok (act_45 x y z u hx hy hz hu μ) (by decide) (by simp) (two_in (lo_i64 _) (hi_i64 _))
theorem any_48 (x y z u : Int) (hx : I64 x) (hy : I64 y) (hz : I64 z) (hu : I64 u) : Any 48 4 [x, y, z, u] μ := any_ok (act_48 x y z u hx hy hz hu μ) (by decide) (by simp) (one_in (truth_i64 _))
theorem any_49 (x y z u : Int) (hx : I64 x) (hy : I64 y) (hz : I64 z) (hu : I64 u) : Any 49 4 [x, y, z, u] μ := any_ok (act_49 x y z u hx hy hz hu μ) (by decide) (by simp) (one_in (truth_i64 _))
theorem any_50 (x y z u : Int) (hx : I64 x) (hy : I64 y) (hz : I64 z) (hu : I64 u) : Any 50 4 [x, y, z, u] μ := any_ok (act_50 x y z u μ) (by decide) (by simp) (one_in (truth_i64 _))
theorem any_46 (x y : Int) (hx : I64 x) (hy : I64 y) : Any 46 2 [x, y] μ := any_ok (act_46 x y hx hy μ) (by decide) (by simp) (two_in (lo_i64 _) (hi_i64 _))
theorem any_51 (x y : Int) (hx : I64 x) (hy : I64 y) : Any 51 2 [x, y] μ := any_ok (act_51 x y hx hy μ) (by decide) (by simp) (two_in (lo_i64 _) (hi_i64 _))
theorem any_52 (x y : Int) (hx : I64 x) (hy : I64 y) : Any 52 2 [x, y] μ := any_ok (act_52 x y hx hy μ) (by decide) (by simp) (two_in (lo_i64 _) (hi_i64 _))
theorem any_53 (x y : Int) (hx : I64 x) (hy : I64 y) : Any 53 2 [x, y] μ := any_ok (act_53 x y hx hy μ) (by decide) (by simp) (two_in (lo_i64 _) (hi_i64 _))
theorem any_54 (x y : Int) (hx : I64 x) (hy : I64 y) : Any 54 2 [x, y] μ := any_ok (act_54 x y hx hy μ) (by decide) (by simp) (two_in (lo_i64 _) (hi_i64 _))
theorem any_47 (x y : Int) (hx : I64 x) (hy : I64 y) : Any 47 2 [x, y] μ := any_ok (act_47 x y hx hy μ) (by decide) (by simp) (two_in (ite_i64 (lo_i64 _) hx) (ite_i64 (hi_i64 _) hy))
theorem any_55 (x y z : Int) (hx : I64 x) (hy : I64 y) (hz : I64 z) : Any 55 3 [x, y, z] μ := any_ok (act_55 x y z hx hy hz μ) (okE_ne _ _) (by simp) (two_in (okR_zi fun _ _ => i64_wrap _) (okR_zi fun _ _ => lo_i64 _))
theorem any_56 (x y z : Int) (hx : I64 x) (hy : I64 y) (hz : I64 z) : Any 56 3 [x, y, z] μ := any_ok (act_56 x y z hx hy hz μ) (okE_ne _ _) (by simp) (two_in (okR_zi fun h _ => FR_i64 hz h) (okR_zi fun _ h => cel_yes h))
theorem any_57 (x y z : Int) (hx : I64 x) (hy : I64 y) (hz : I64 z) : Any 57 3 [x, y, z] μ := any_ok (act_57 x y z hx hy hz μ) (okE_ne _ _) (by simp) (two_in (okR_zi fun h _ => tmod_i64 hz h) (okR_zi fun _ h => cel_yes h))
theorem any_58 (x y z : Int) (hx : I64 x) (hy : I64 y) (hz : I64 z) : Any 58 3 [x, y, z] μ := any_ok (act_58 x y z hx hy hz μ) (okE_ne _ _) (by simp) (one_in (okR_zi fun _ h => cel_yes h))
theorem any_59 (x y z : Int) (hx : I64 x) (hy : I64 y) (hz : I64 z) : Any 59 3 [x, y, z] μ := any_ok (act_59 x y z hx hy hz μ) (okE_ne _ _) (by simp) (two_in (okR_zi fun h _ => FR_i64 hz h) (okR_zi fun _ h => cel_yes h))
theorem any_60 (x y : Int) (hx : I64 x) (hy : I64 y) : Any 60 2 [x, y] μ := any_ok (act_60 x y μ) (by split <;> decide) (by split <;> simp) (by
  split
  · simp
  · exact two_in (twoV_i64 _ _ _ hx hy) (twoV_i64 _ _ _ hx hy))
theorem any_71 (x : Int) (hx : I64 x) : Any 71 1 [x] μ := any_ok (act_71 x μ) (by decide) (by simp) (one_in (cellOf_in _))
theorem any_72 (x : Int) (hx : I64 x) : Any 72 1 [x] μ := by
  obtain ⟨v, e, he, hv, U⟩ := act_72 x μ
  exact any_ok U (by rcases he with rfl | rfl <;> decide) (by simp) (one_in hv)
theorem any_87 (x : Int) (hx : I64 x) : Any 87 1 [x] μ := any_ok (act_87 x μ) (by decide) (by simp) (one_in (andnot_i64 _ _))
theorem any_88 (x : Int) (hx : I64 x) : Any 88 1 [x] μ := any_ok (act_88 x μ) (by decide) (by simp) (one_in (i64_wrap _))
theorem any_90 (x : Int) (hx : I64 x) : Any 90 1 [x] μ := any_say (act_90 x μ)
theorem any_97 (x : Int) (hx : I64 x) : Any 97 1 [x] μ := any_say (act_97 x μ)
theorem any_95 : Any 95 0 [] μ := any_say (act_95 μ)
theorem any_96 : Any 96 0 [] μ := any_say (act_96 μ)
theorem any_94 (x : Int) (hx : I64 x) : Any 94 1 [x] μ := by
  obtain ⟨L, hL, HT⟩ := real_text x
  exact any_say (act_94_of x L hL HT μ)
theorem any_91 (x : Int) (hx : I64 x) : Any 91 1 [x] μ := by
  rcases base_cases μ with e | ⟨B, e, h2, h36, _⟩
  · exact any_er (e := baseE μ) (act_91_of x hx _ _ μ _ fun W a T R h => saynum_err (by rw [e]; decide) h) (by rw [e]; decide)
  · exact any_say (act_91_of x hx _ _ μ _ fun W a T R h => saynum_ok (lo_i64 x) (hi_i64 x) B e h2 h36 h)
theorem any_92 (x : Int) (hx : I64 x) : Any 92 1 [x] μ := by
  rcases base_cases μ with e | ⟨B, e, h2, h36, _⟩
  · exact any_er (e := baseE μ) (act_92_of x _ _ μ _ fun W a T R h => saynum_err (by rw [e]; decide) h) (by rw [e]; decide)
  · exact any_say (act_92_of x _ _ μ _ fun W a T R h => saynum_ok hx zero_i64 B e h2 h36 h)
theorem any_93 (x y : Int) (hx : I64 x) (hy : I64 y) : Any 93 2 [x, y] μ := by
  rcases base_cases μ with e | ⟨B, e, h2, h36, _⟩
  · exact any_er (e := baseE μ) (act_93_of x y _ _ μ _ fun W a T R h => saynum_err (by rw [e]; decide) h) (by rw [e]; decide)
  · exact any_say (act_93_of x y _ _ μ _ fun W a T R h => saynum_ok hx hy B e h2 h36 h)
theorem any_102 : Any 102 0 [] μ := any_say (act_102_of _ _ μ _ fun W a T R h => begin_calls h)
theorem holdE_or (μ : Mu) (c : UInt8) : holdE μ = -17 ∧ holdM μ c = μ ∨ holdE μ = 0 := by
  unfold holdE holdM
  by_cases h : 200 ≤ μ.K.length
  · left; rw [if_pos h, if_pos h]; exact ⟨rfl, rfl⟩
  · right; rw [if_neg h]
theorem any_103 (x y : Int) (hx : I64 x) (hy : I64 y) : Any 103 2 [x, y] μ := by
  have hb := W_bd x y
  rcases base_cases μ with e | ⟨B, e, h2, h36, _⟩
  · exact any_er (e := baseE μ) (act_103_of x y _ _ μ _ fun W a T R h => convone_err (by rw [e]; decide) (fun W T h => holddigit_err (by rw [e]; decide) h) h) (by rw [e]; decide)
  · obtain ⟨P, hP⟩ : ∃ P : Nat, W x y = (P : Int) := ⟨(W x y).toNat, by omega⟩
    rcases holdE_or μ (letter (P % B)) with ⟨k1, k2⟩ | k1
    · exact any_er (e := -17) (act_103_of x y _ _ μ _ fun W a T R h => convone_err (by decide) (fun W T h => by have := holddigit_ok hx hy B P hP e h2 h36 h; rw [k1, k2] at this; exact this) h) (by decide)
    · exact ⟨_, 0, _, act_103_of x y _ 0 μ _ fun W a T R h => convone_ok (fun W T h => by have := holddigit_ok hx hy B P hP e h2 h36 h; rw [k1] at this; exact this) h, by decide, fun e => absurd rfl e, by simp, by simp, two_in (lo_i64 _) (hi_i64 _)⟩
theorem any_104 (x y : Int) (hx : I64 x) (hy : I64 y) : Any 104 2 [x, y] μ := by
  have hb := W_bd x y
  rcases base_cases μ with e | ⟨B, e, h2, h36, _⟩
  · exact any_er (e := baseE μ) (act_104_of x y _ _ μ _ fun W a T R h => convall_base (by rw [e]; decide) h) (by rw [e]; decide)
  · obtain ⟨P, hP⟩ : ∃ P : Nat, W x y = (P : Int) := ⟨(W x y).toNat, by omega⟩
    by_cases hl : 200 < (text B P ++ μ.K).length
    · exact any_er (e := -17) (act_104_of x y _ _ μ _ fun W a T R h => by have := convall_ok hx hy B P hP e h2 h36 h; unfold allR at this; rw [if_pos hl] at this; exact this) (by decide)
    · exact ⟨[0, 0], 0, { μ with K := text B P ++ μ.K }, act_104_of x y _ 0 μ _ fun W a T R h => by have := convall_ok hx hy B P hP e h2 h36 h; unfold allR at this; rw [if_neg hl] at this; exact this, by decide, fun e => absurd rfl e, by simp, by simp, two_in zero_i64 zero_i64⟩
theorem any_105 (x : Int) (hx : I64 x) : Any 105 1 [x] μ := by
  rcases holdE_or μ (bt x) with ⟨k1, k2⟩ | k1
  · have U := act_105 x μ
    rw [k1, k2] at U
    exact any_er U (by decide)
  · have U := act_105 x μ
    rw [k1] at U
    exact any_say U
theorem any_106 (x : Int) (hx : I64 x) : Any 106 1 [x] μ := by
  have U := act_106_of x _ μ _ fun W a T R h => holdsign_calls x h
  unfold signE signM at U
  by_cases hn : x < 0
  · rw [if_pos hn, if_pos hn] at U
    rcases holdE_or μ 45 with ⟨k1, k2⟩ | k1
    · rw [k1, k2] at U
      exact any_er U (by decide)
    · rw [k1] at U
      exact any_say U
  · rw [if_neg hn, if_neg hn] at U
    exact any_er U (by decide)
theorem any_107 (x y : Int) (hm : μ.ok) : Any 107 2 [x, y] μ := by
  have h1 := hm.hi
  have h2 := hm.k
  exact ⟨_, 0, _, act_107_of x y _ 0 μ _ fun W a T R h => end_calls h, by decide, fun e => absurd rfl e, by simp, by simp, two_in (by unfold I64 endAt; omega) (by unfold I64; omega)⟩
/-- How many cells an operation takes. -/
def arity (n : Int) : Nat := if 1 ≤ n ∧ n ≤ 10 then 1 else if 11 ≤ n ∧ n ≤ 27 then 2 else if 28 ≤ n ∧ n ≤ 42 then 0 else if 61 ≤ n ∧ n ≤ 62 then 1 else if 63 ≤ n ∧ n ≤ 70 then 2 else
  (match n with
  | 43 => 1
  | 44 => 4
  | 45 => 4
  | 46 => 2
  | 47 => 2
  | 48 => 4
  | 49 => 4
  | 50 => 4
  | 51 => 2
  | 52 => 2
  | 53 => 2
  | 54 => 2
  | 55 => 3
  | 56 => 3
  | 57 => 3
  | 58 => 3
  | 59 => 3
  | 60 => 2
  | 71 => 1
  | 72 => 1
  | 73 => 1
  | 74 => 2
  | 75 => 1
  | 76 => 2
  | 77 => 2
  | 78 => 1
  | 79 => 3
  | 80 => 3
  | 81 => 3
  | 82 => 0
  | 83 => 1
  | 84 => 1
  | 85 => 1
  | 86 => 0
  | 87 => 1
  | 88 => 1
  | 89 => 1
  | 90 => 1
  | 91 => 1
  | 92 => 1
  | 93 => 2
  | 94 => 1
  | 95 => 0
  | 96 => 0
  | 97 => 1
  | 98 => 2
  | 100 => 0
  | 101 => 0
  | 102 => 0
  | 103 => 2
  | 104 => 2
  | 105 => 1
  | 106 => 1
  | 107 => 2
  | _ => 0)
theorem shp_arity (s : Nat) (n : Int) (S : Shp) (h : shp s n = some S) : takes S = (arity n : Int) := by
  unfold shp at h
  by_cases c1 : 1 ≤ n ∧ n ≤ 10
  · rw [if_pos c1] at h; injection h with h; subst h; unfold arity; rw [if_pos c1]; rfl
  rw [if_neg c1] at h
  by_cases c2 : 11 ≤ n ∧ n ≤ 27
  · rw [if_pos c2] at h; injection h with h; subst h; unfold arity; rw [if_neg c1, if_pos c2]; rfl
  rw [if_neg c2] at h
  by_cases c3 : 28 ≤ n ∧ n ≤ 42
  · rw [if_pos c3] at h; injection h with h; subst h; unfold arity; rw [if_neg c1, if_neg c2, if_pos c3]; rfl
  rw [if_neg c3] at h
  by_cases c4 : 61 ≤ n ∧ n ≤ 62
  · rw [if_pos c4] at h; injection h with h; subst h; unfold arity; rw [if_neg c1, if_neg c2, if_neg c3, if_pos c4]; rfl
  rw [if_neg c4] at h
  by_cases c5 : 63 ≤ n ∧ n ≤ 70
  · rw [if_pos c5] at h; injection h with h; subst h; unfold arity; rw [if_neg c1, if_neg c2, if_neg c3, if_neg c4, if_pos c5]; rfl
  rw [if_neg c5] at h
  unfold arity
  rw [if_neg c1, if_neg c2, if_neg c3, if_neg c4, if_neg c5]
  unfold shpL at h
  split at h
  all_goals first
    | (injection h with h; subst h; rfl)
    | cases h
theorem shp_known (s : Nat) (n : Int) (hn : 1 ≤ n ∧ n ≤ 107) : ∃ S, shp s n = some S := by
  unfold shp
  by_cases c1 : 1 ≤ n ∧ n ≤ 10
  · exact ⟨_, if_pos c1⟩
  rw [if_neg c1]
  by_cases c2 : 11 ≤ n ∧ n ≤ 27
  · exact ⟨_, if_pos c2⟩
  rw [if_neg c2]
  by_cases c3 : 28 ≤ n ∧ n ≤ 42
  · exact ⟨_, if_pos c3⟩
  rw [if_neg c3]
  by_cases c4 : 61 ≤ n ∧ n ≤ 62
  · exact ⟨_, if_pos c4⟩
  rw [if_neg c4]
  by_cases c5 : 63 ≤ n ∧ n ≤ 70
  · exact ⟨_, if_pos c5⟩
  rw [if_neg c5]
  rcases (show n = 43 ∨ n = 44 ∨ n = 45 ∨ n = 46 ∨ n = 47 ∨ n = 48 ∨ n = 49 ∨ n = 50 ∨ n = 51 ∨ n = 52 ∨ n = 53 ∨ n = 54 ∨ n = 55 ∨ n = 56 ∨ n = 57 ∨ n = 58 ∨ n = 59 ∨ n = 60 ∨ n = 71 ∨ n = 72 ∨ n = 73 ∨ n = 74 ∨ n = 75 ∨ n = 76 ∨ n = 77 ∨ n = 78 ∨ n = 79 ∨ n = 80 ∨ n = 81 ∨ n = 82 ∨ n = 83 ∨ n = 84 ∨ n = 85 ∨ n = 86 ∨ n = 87 ∨ n = 88 ∨ n = 89 ∨ n = 90 ∨ n = 91 ∨ n = 92 ∨ n = 93 ∨ n = 94 ∨ n = 95 ∨ n = 96 ∨ n = 97 ∨ n = 98 ∨ n = 99 ∨ n = 100 ∨ n = 101 ∨ n = 102 ∨ n = 103 ∨ n = 104 ∨ n = 105 ∨ n = 106 ∨ n = 107 by omega) with rfl | rfl | rfl | rfl | rfl | rfl | rfl | rfl | rfl | rfl | rfl | rfl | rfl | rfl | rfl | rfl | rfl | rfl | rfl | rfl | rfl | rfl | rfl | rfl | rfl | rfl | rfl | rfl | rfl | rfl | rfl | rfl | rfl | rfl | rfl | rfl | rfl | rfl | rfl | rfl | rfl | rfl | rfl | rfl | rfl | rfl | rfl | rfl | rfl | rfl | rfl | rfl | rfl | rfl | rfl
  all_goals exact ⟨_, rfl⟩
theorem any_op (n : Int) (hn : 1 ≤ n ∧ n ≤ 107) (hs : ¬ (28 ≤ n ∧ n ≤ 42)) (h99 : n ≠ 99) (hm : μ.ok) (X : List Int) (hX : X.length = arity n) (hI : ∀ x ∈ X, I64 x) : Any n (arity n) X μ := by
  by_cases c1 : 1 ≤ n ∧ n ≤ 10
  · have e : arity n = 1 := if_pos c1
    rw [e] at hX ⊢
    obtain ⟨x, rfl⟩ := len1 hX
    exact any_c1 n x c1 (hI x (by simp))
  by_cases c2 : 11 ≤ n ∧ n ≤ 27
  · have e : arity n = 2 := by unfold arity; rw [if_neg c1, if_pos c2]
    rw [e] at hX ⊢
    obtain ⟨x, y, rfl⟩ := len2 hX
    exact any_c2 n x y c2 (hI x (by simp)) (hI y (by simp))
  by_cases c3 : 61 ≤ n ∧ n ≤ 62
  · have e : arity n = 1 := by unfold arity; rw [if_neg c1, if_neg c2, if_neg hs, if_pos c3]
    rw [e] at hX ⊢
    obtain ⟨x, rfl⟩ := len1 hX
    exact any_r1 n x c3
  by_cases c4 : 63 ≤ n ∧ n ≤ 70
  · have e : arity n = 2 := by unfold arity; rw [if_neg c1, if_neg c2, if_neg hs, if_neg c3, if_pos c4]
    rw [e] at hX ⊢
    obtain ⟨x, y, rfl⟩ := len2 hX
    exact any_r2 n x y c4
  rcases (show n = 43 ∨ n = 44 ∨ n = 45 ∨ n = 46 ∨ n = 47 ∨ n = 48 ∨ n = 49 ∨ n = 50 ∨ n = 51 ∨ n = 52 ∨ n = 53 ∨ n = 54 ∨ n = 55 ∨ n = 56 ∨ n = 57 ∨ n = 58 ∨ n = 59 ∨ n = 60 ∨ n = 71 ∨ n = 72 ∨ n = 73 ∨ n = 74 ∨ n = 75 ∨ n = 76 ∨ n = 77 ∨ n = 78 ∨ n = 79 ∨ n = 80 ∨ n = 81 ∨ n = 82 ∨ n = 83 ∨ n = 84 ∨ n = 85 ∨ n = 86 ∨ n = 87 ∨ n = 88 ∨ n = 89 ∨ n = 90 ∨ n = 91 ∨ n = 92 ∨ n = 93 ∨ n = 94 ∨ n = 95 ∨ n = 96 ∨ n = 97 ∨ n = 98 ∨ n = 100 ∨ n = 101 ∨ n = 102 ∨ n = 103 ∨ n = 104 ∨ n = 105 ∨ n = 106 ∨ n = 107 by omega) with rfl | rfl | rfl | rfl | rfl | rfl | rfl | rfl | rfl | rfl | rfl | rfl | rfl | rfl | rfl | rfl | rfl | rfl | rfl | rfl | rfl | rfl | rfl | rfl | rfl | rfl | rfl | rfl | rfl | rfl | rfl | rfl | rfl | rfl | rfl | rfl | rfl | rfl | rfl | rfl | rfl | rfl | rfl | rfl | rfl | rfl | rfl | rfl | rfl | rfl | rfl | rfl | rfl | rfl
  · obtain ⟨x, rfl⟩ := len1 hX; exact any_43 x (hI x (by simp))
  · obtain ⟨x, y, z, u, rfl⟩ := len4 hX; exact any_44 x y z u (hI x (by simp)) (hI y (by simp)) (hI z (by simp)) (hI u (by simp))
  · obtain ⟨x, y, z, u, rfl⟩ := len4 hX; exact any_45 x y z u (hI x (by simp)) (hI y (by simp)) (hI z (by simp)) (hI u (by simp))
  · obtain ⟨x, y, rfl⟩ := len2 hX; exact any_46 x y (hI x (by simp)) (hI y (by simp))
  · obtain ⟨x, y, rfl⟩ := len2 hX; exact any_47 x y (hI x (by simp)) (hI y (by simp))
  · obtain ⟨x, y, z, u, rfl⟩ := len4 hX; exact any_48 x y z u (hI x (by simp)) (hI y (by simp)) (hI z (by simp)) (hI u (by simp))
  · obtain ⟨x, y, z, u, rfl⟩ := len4 hX; exact any_49 x y z u (hI x (by simp)) (hI y (by simp)) (hI z (by simp)) (hI u (by simp))
  · obtain ⟨x, y, z, u, rfl⟩ := len4 hX; exact any_50 x y z u (hI x (by simp)) (hI y (by simp)) (hI z (by simp)) (hI u (by simp))
  · obtain ⟨x, y, rfl⟩ := len2 hX; exact any_51 x y (hI x (by simp)) (hI y (by simp))
  · obtain ⟨x, y, rfl⟩ := len2 hX; exact any_52 x y (hI x (by simp)) (hI y (by simp))
  · obtain ⟨x, y, rfl⟩ := len2 hX; exact any_53 x y (hI x (by simp)) (hI y (by simp))
  · obtain ⟨x, y, rfl⟩ := len2 hX; exact any_54 x y (hI x (by simp)) (hI y (by simp))
  · obtain ⟨x, y, z, rfl⟩ := len3 hX; exact any_55 x y z (hI x (by simp)) (hI y (by simp)) (hI z (by simp))
  · obtain ⟨x, y, z, rfl⟩ := len3 hX; exact any_56 x y z (hI x (by simp)) (hI y (by simp)) (hI z (by simp))
  · obtain ⟨x, y, z, rfl⟩ := len3 hX; exact any_57 x y z (hI x (by simp)) (hI y (by simp)) (hI z (by simp))
  · obtain ⟨x, y, z, rfl⟩ := len3 hX; exact any_58 x y z (hI x (by simp)) (hI y (by simp)) (hI z (by simp))
  · obtain ⟨x, y, z, rfl⟩ := len3 hX; exact any_59 x y z (hI x (by simp)) (hI y (by simp)) (hI z (by simp))
  · obtain ⟨x, y, rfl⟩ := len2 hX; exact any_60 x y (hI x (by simp)) (hI y (by simp))
  · obtain ⟨x, rfl⟩ := len1 hX; exact any_71 x (hI x (by simp))
  · obtain ⟨x, rfl⟩ := len1 hX; exact any_72 x (hI x (by simp))
  · obtain ⟨x, rfl⟩ := len1 hX; exact any_73 x (hI x (by simp))
  · obtain ⟨x, y, rfl⟩ := len2 hX; exact any_74 x y (hI x (by simp)) (hI y (by simp))
  · obtain ⟨x, rfl⟩ := len1 hX; exact any_75 x (hI x (by simp))
  · obtain ⟨x, y, rfl⟩ := len2 hX; exact any_76 x y (hI x (by simp)) (hI y (by simp))
  · obtain ⟨x, y, rfl⟩ := len2 hX; exact any_77 x y (hI x (by simp)) (hI y (by simp))
  · obtain ⟨x, rfl⟩ := len1 hX; exact any_78 x (hI x (by simp))
  · obtain ⟨x, y, z, rfl⟩ := len3 hX; exact any_79 x y z (hI x (by simp)) (hI y (by simp)) (hI z (by simp)) hm
  · obtain ⟨x, y, z, rfl⟩ := len3 hX; exact any_80 x y z (hI x (by simp)) (hI y (by simp)) (hI z (by simp))
  · obtain ⟨x, y, z, rfl⟩ := len3 hX; exact any_81 x y z (hI x (by simp)) (hI y (by simp)) (hI z (by simp))
  · obtain rfl := len0 hX; exact any_82 hm
  · obtain ⟨x, rfl⟩ := len1 hX; exact any_83 x (hI x (by simp))
  · obtain ⟨x, rfl⟩ := len1 hX; exact any_84 x (hI x (by simp))
  · obtain ⟨x, rfl⟩ := len1 hX; exact any_85 x (hI x (by simp))
  · obtain rfl := len0 hX; exact any_86
  · obtain ⟨x, rfl⟩ := len1 hX; exact any_87 x (hI x (by simp))
  · obtain ⟨x, rfl⟩ := len1 hX; exact any_88 x (hI x (by simp))
  · obtain ⟨x, rfl⟩ := len1 hX; exact any_89 x (hI x (by simp))
  · obtain ⟨x, rfl⟩ := len1 hX; exact any_90 x (hI x (by simp))
  · obtain ⟨x, rfl⟩ := len1 hX; exact any_91 x (hI x (by simp))
  · obtain ⟨x, rfl⟩ := len1 hX; exact any_92 x (hI x (by simp))
  · obtain ⟨x, y, rfl⟩ := len2 hX; exact any_93 x y (hI x (by simp)) (hI y (by simp))
  · obtain ⟨x, rfl⟩ := len1 hX; exact any_94 x (hI x (by simp))
  · obtain rfl := len0 hX; exact any_95
  · obtain rfl := len0 hX; exact any_96
  · obtain ⟨x, rfl⟩ := len1 hX; exact any_97 x (hI x (by simp))
  · obtain ⟨x, y, rfl⟩ := len2 hX; exact any_98 x y (hI x (by simp)) (hI y (by simp)) hm
  · obtain rfl := len0 hX; exact any_100
  · obtain rfl := len0 hX; exact any_101
  · obtain rfl := len0 hX; exact any_102
  · obtain ⟨x, y, rfl⟩ := len2 hX; exact any_103 x y (hI x (by simp)) (hI y (by simp))
  · obtain ⟨x, y, rfl⟩ := len2 hX; exact any_104 x y (hI x (by simp)) (hI y (by simp))
  · obtain ⟨x, rfl⟩ := len1 hX; exact any_105 x (hI x (by simp))
  · obtain ⟨x, rfl⟩ := len1 hX; exact any_106 x (hI x (by simp))
  · obtain ⟨x, y, rfl⟩ := len2 hX; exact any_107 x y hm
end Go.Proofs.YtegcecpmdgljpaaGreatDoor
