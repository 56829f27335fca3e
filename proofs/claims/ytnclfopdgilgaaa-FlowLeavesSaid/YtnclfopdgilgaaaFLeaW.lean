/- Layer 11: a loop is left to behind its end (FlowLeaves' walk). No condition. -/
import Derived.Test.YtnclfopdgilgaaaFMayB
namespace Go.Proofs.Ytnclfopdgilgaaa
open Go.RowKit
set_option linter.unusedVariables false

/-- How many instructions a leave takes. -/
def evL (wi : Bool) : Nat := if wi then 2 else 1
/-- Is i one that leaves, of those behind n loops? -/
def lfL (wi : Bool) (n i : Nat) : Bool := !wi || decide ((i - n) % 2 = 1)
/-- n loops, j leaves, t ends; those that leave go to la. -/
def LvC (wi : Bool) (n j t : Nat) (la : Int) (L : List Xi) : Prop := L.length = n + j * evL wi + t ∧ ∀ i x, L[i]? = some x → (i < n → x.op = 5) ∧ (n ≤ i → i < n + j * evL wi → (lfL wi n i = true → x.op = 9 ∧ x.a = la) ∧ (lfL wi n i = false → x.op = 4)) ∧ (n + j * evL wi ≤ i → x.op = 7 ∧ x.a = (n : Int) - ((i : Int) - ((n + j * evL wi : Nat) : Int)))
def lpD (t : Nat) : Pk := ⟨3, t + 1, []⟩
def lpN (n : Nat) : List Pk := (List.range n).map lpD
theorem lpN_succ (n : Nat) : lpN (n + 1) = lpN n ++ [⟨3, n + 1, []⟩] := by unfold lpN; rw [List.range_succ, List.map_append]; rfl
theorem lpN_len (n : Nat) : (lpN n).length = n := by simp [lpN]
def dosB (i : Nat) : Bd := ⟨List.replicate i ⟨5, 0, 0⟩, lpN i⟩
theorem dos_step {i : Nat} (hi : i < 10) : doB 9 (dosB i) = (0, dosB (i + 1)) := by
  rw [do_fine 9 ⟨[], 0, 5, true, 7⟩ rfl (by unfold fitsB; simp [ends_nil]) (by unfold roomB dosB; simp [lpN_len]; omega)]
  unfold dosB
  rw [lpN_succ, List.replicate_succ']
  simp [actB, openB, layB]
def Stl (wi : Bool) (n j : Nat) (B : Bd) : Prop := ∃ G, B.P = lpN (n - 1) ++ [⟨3, n, G⟩] ∧ LvC wi n j 0 0 B.L ∧ ∀ i, i ∈ G ↔ n ≤ i ∧ i < n + j * evL wi ∧ lfL wi n i = true
theorem sl_new (wi : Bool) {n : Nat} (hn : 0 < n) : Stl wi n 0 (dosB n) := by
  obtain ⟨m, rfl⟩ : ∃ m, n = m + 1 := ⟨n - 1, by omega⟩
  refine ⟨[], ?_, ⟨by simp [dosB], fun i x hx => ?_⟩, fun i => ?_⟩
  · show lpN (m + 1) = _
    rw [lpN_succ]; simp
  · obtain ⟨h1, h2⟩ := List.getElem?_eq_some_iff.1 hx
    have h1 : i < m + 1 := by simpa [dosB] using h1
    have h2 : x = ⟨5, 0, 0⟩ := by rw [← h2]; simp [dosB]
    subst h2
    exact ⟨fun _ => rfl, fun a b => by omega, fun h => by omega⟩
  · simp; omega
theorem snoc_get {L : List Xi} {y x : Xi} {i : Nat} (h : (L ++ [y])[i]? = some x) : L[i]? = some x ∨ (i = L.length ∧ y = x) := by
  by_cases hi : i < L.length
  · rw [List.getElem?_append_left hi] at h; exact Or.inl h
  · obtain ⟨h1, h2⟩ := List.getElem?_eq_some_iff.1 h
    have : i = L.length := by simp at h1; omega
    subst this
    rw [List.getElem?_append_right (Nat.le_refl _)] at h
    exact Or.inr ⟨rfl, by simpa using h⟩
theorem leave_out {n j : Nat} {B : Bd} (h : Stl false n j B) (hn : n ≤ 10) (hj : j ≤ 10) : (doB 13 B).1 = 0 ∧ Stl false n (j + 1) (doB 13 B).2 := by
  obtain ⟨L, P⟩ := B
  obtain ⟨G, hP, ⟨hl, hL⟩, hG⟩ := h
  simp only at hP hL hl
  subst hP
  have e1 : evL false = 1 := rfl
  rw [e1] at hl
  rw [do_fine 13 ⟨[], 3, 9, false, 9⟩ rfl (by unfold fitsB; have ht := topmost_is (k := 3) (C := lpN (n - 1)) (q := ⟨3, n, G⟩) (D := []) rfl (by simp); simp [ends_nil, ht]) (by unfold roomB; simp; omega)]
  refine ⟨rfl, ?_⟩
  show Stl false n (j + 1) (leaveB ⟨L ++ [⟨9, 0, 0⟩], lpN (n - 1) ++ [⟨3, n, G⟩]⟩)
  rw [leave_mid (L ++ [(⟨9, 0, 0⟩ : Xi)]) (lpN (n - 1)) ⟨3, n, G⟩ [] rfl (by simp)]
  refine ⟨G ++ [L.length], by simp, ⟨by simp [e1]; omega, fun i x hx => ?_⟩, fun i => ?_⟩
  · rcases snoc_get hx with hx | ⟨rfl, rfl⟩
    · have hi := (List.getElem?_eq_some_iff.1 hx).1
      obtain ⟨h1, h2, h3⟩ := hL i x hx
      rw [e1] at h2 h3 ⊢
      exact ⟨h1, fun a b => h2 a (by omega), fun a => by omega⟩
    · rw [e1]
      exact ⟨fun a => by omega, fun a b => ⟨fun _ => ⟨rfl, rfl⟩, fun h => by simp [lfL] at h⟩, fun a => by omega⟩
  · have := hG i
    rw [e1] at this ⊢
    simp only [List.mem_append, this, List.mem_singleton, lfL, Bool.not_false, Bool.true_or, and_true]
    omega
theorem leave_in {n j : Nat} {B : Bd} (h : Stl true n j B) (hn : n ≤ 10) (hj : j ≤ 10) : (doB 1 B).1 = 0 ∧ (doB 13 (doB 1 B).2).1 = 0 ∧ (doB 3 (doB 13 (doB 1 B).2).2).1 = 0 ∧ Stl true n (j + 1) (doB 3 (doB 13 (doB 1 B).2).2).2 := by
  obtain ⟨L, P⟩ := B
  obtain ⟨G, hP, ⟨hl, hL⟩, hG⟩ := h
  simp only at hP hL hl
  subst hP
  have e1 : evL true = 2 := rfl
  rw [e1] at hl
  have d1 : doB 1 ⟨L, lpN (n - 1) ++ [⟨3, n, G⟩]⟩ = (0, ⟨L ++ [⟨4, 0, 0⟩], lpN (n - 1) ++ ⟨3, n, G⟩ :: [⟨1, L.length + 1, [L.length]⟩]⟩) := by
    rw [do_fine 1 ⟨[], 0, 4, true, 0⟩ rfl (by unfold fitsB; simp [ends_nil]) (by unfold roomB; simp [lpN_len]; omega)]
    simp [actB, gapB, openB, layB]
  rw [d1]
  have d2 : doB 13 ⟨L ++ [⟨4, 0, 0⟩], lpN (n - 1) ++ ⟨3, n, G⟩ :: [⟨1, L.length + 1, [L.length]⟩]⟩ = (0, ⟨L ++ [⟨4, 0, 0⟩] ++ [⟨9, 0, 0⟩], (lpN (n - 1) ++ [⟨3, n, G ++ [L.length + 1]⟩]) ++ [⟨1, L.length + 1, [L.length]⟩]⟩) := by
    rw [do_fine 13 ⟨[], 3, 9, false, 9⟩ rfl (by unfold fitsB; have ht := topmost_is (k := 3) (C := lpN (n - 1)) (q := ⟨3, n, G⟩) (D := [⟨1, L.length + 1, [L.length]⟩]) rfl (by simp); simp [ends_nil, ht]) (by unfold roomB; simp; omega)]
    show ((0 : Int), leaveB ⟨L ++ [⟨4, 0, 0⟩] ++ [⟨9, 0, 0⟩], lpN (n - 1) ++ ⟨3, n, G⟩ :: [⟨1, L.length + 1, [L.length]⟩]⟩) = _
    rw [leave_mid (L ++ [(⟨4, 0, 0⟩ : Xi)] ++ [(⟨9, 0, 0⟩ : Xi)]) (lpN (n - 1)) ⟨3, n, G⟩ [⟨1, L.length + 1, [L.length]⟩] rfl (by simp)]
    simp
  rw [d2]
  have d3 : doB 3 ⟨L ++ [⟨4, 0, 0⟩] ++ [⟨9, 0, 0⟩], (lpN (n - 1) ++ [⟨3, n, G ++ [L.length + 1]⟩]) ++ [⟨1, L.length + 1, [L.length]⟩]⟩ = (0, ⟨closeL (L.length + 2) [L.length] (L ++ [⟨4, 0, 0⟩] ++ [⟨9, 0, 0⟩]), lpN (n - 1) ++ [⟨3, n, G ++ [L.length + 1]⟩]⟩) := by
    rw [do_fine 3 ⟨[1], 0, 0, false, 2⟩ rfl (by unfold fitsB; rw [ends_snoc _ (⟨1, L.length + 1, [L.length]⟩ : Pk)]; simp) (by unfold roomB; simp)]
    show ((0 : Int), closeB ⟨L ++ [⟨4, 0, 0⟩] ++ [⟨9, 0, 0⟩], (lpN (n - 1) ++ [⟨3, n, G ++ [L.length + 1]⟩]) ++ [⟨1, L.length + 1, [L.length]⟩]⟩) = _
    rw [close_snoc]
    simp
  rw [d3]
  refine ⟨rfl, rfl, rfl, G ++ [L.length + 1], rfl, ⟨by simp [closeL_len, e1]; omega, fun i x hx => ?_⟩, fun i => ?_⟩
  · simp only at hx
    rw [closeL_get] at hx
    have hx2 : ∃ y, (L ++ [⟨4, 0, 0⟩] ++ [⟨9, 0, 0⟩])[i]? = some y ∧ y.op = x.op ∧ (i ≠ L.length → y = x) := by
      split at hx
      · rename_i hi
        obtain ⟨y, hy, e⟩ := Option.map_eq_some_iff.1 hx
        exact ⟨y, hy, by rw [← e], fun h => by simp at hi; omega⟩
      · exact ⟨x, hx, rfl, fun _ => rfl⟩
    obtain ⟨y, hy, hop, hxy⟩ := hx2
    rcases snoc_get hy with hy | ⟨hi, rfl⟩
    · rcases snoc_get hy with hy | ⟨hi, rfl⟩
      · have hi := (List.getElem?_eq_some_iff.1 hy).1
        obtain rfl := hxy (by omega)
        obtain ⟨h1, h2, h3⟩ := hL i y hy
        rw [e1] at h2 h3 ⊢
        exact ⟨h1, fun a b => h2 a (by omega), fun a => by omega⟩
      · rw [e1]
        subst hi
        have hf : lfL true n L.length = false := by simp [lfL]; omega
        exact ⟨fun a => by omega, fun a b => ⟨(fun h => (by rw [hf] at h; cases h)), fun _ => hop.symm⟩, fun a => by omega⟩
    · obtain rfl := hxy (by simp at hi; omega)
      rw [e1]
      have hi : i = L.length + 1 := by simpa using hi
      subst hi
      have hf : lfL true n (L.length + 1) = true := by simp [lfL]; omega
      exact ⟨fun a => by omega, fun a b => ⟨fun _ => ⟨rfl, rfl⟩, fun h => by rw [hf] at h; cases h⟩, fun a => by omega⟩
  · have := hG i
    rw [e1] at this ⊢
    simp only [List.mem_append, this, List.mem_singleton]
    constructor
    · rintro (⟨h1, h2, h3⟩ | rfl)
      · exact ⟨h1, by omega, h3⟩
      · exact ⟨by omega, by omega, by simp [lfL]; omega⟩
    · rintro ⟨h1, h2, h3⟩
      by_cases he : i < n + j * 2
      · exact Or.inl ⟨h1, he, h3⟩
      · simp [lfL] at h3
        exact Or.inr (by omega)
def Stg (wi : Bool) (n k t : Nat) (B : Bd) : Prop := (t = 0 ∧ Stl wi n k B) ∨ (0 < t ∧ B.P = lpN (n - t) ∧ LvC wi n k t (((n + k * evL wi + 1 : Nat) : Int)) B.L)
theorem ev_le (wi : Bool) (k : Nat) : k * evL wi ≤ 2 * k := by cases wi <;> simp [evL] <;> omega
theorem sg_step {wi : Bool} {n k t : Nat} {B : Bd} (h : Stg wi n k t B) (ht : t < n) (hn : n ≤ 10) (hk : k ≤ 10) : (doB 11 B).1 = 0 ∧ Stg wi n k (t + 1) (doB 11 B).2 := by
  obtain ⟨L, P⟩ := B
  have hev := ev_le wi k
  rcases h with ⟨rfl, G, hP, ⟨hl, hL⟩, hG⟩ | ⟨ht0, hP, hl, hL⟩
  · simp only at hP hL hl
    subst hP
    rw [do_fine 11 ⟨[3], 0, 7, false, 6⟩ rfl (by unfold fitsB; rw [ends_snoc _ (⟨3, n, G⟩ : Pk)]; simp) (by unfold roomB; simp; omega)]
    refine ⟨rfl, Or.inr ⟨by omega, ?_⟩⟩
    show (backB ⟨L ++ [⟨7, 0, 0⟩], lpN (n - 1) ++ [⟨3, n, G⟩]⟩).P = _ ∧ LvC wi n k (0 + 1) _ (backB ⟨L ++ [⟨7, 0, 0⟩], lpN (n - 1) ++ [⟨3, n, G⟩]⟩).L
    rw [back_snoc]
    refine ⟨rfl, by simp [closeL_len, setA_len]; omega, fun i x hx => ?_⟩
    simp only at hx
    rw [closeL_get, setA_get] at hx
    have e2 : (L ++ [(⟨7, 0, 0⟩ : Xi)]).length - 1 = L.length := by simp
    rw [e2] at hx
    by_cases hiG : i ∈ G
    · obtain ⟨g1, g2, g3⟩ := (hG i).1 hiG
      rw [if_pos hiG, if_neg (by omega)] at hx
      obtain ⟨y, hy, rfl⟩ := Option.map_eq_some_iff.1 hx
      rcases snoc_get hy with hy | ⟨hi, rfl⟩
      · obtain ⟨h1, h2, h3⟩ := hL i y hy
        exact ⟨h1, fun a b => ⟨fun c => ⟨((h2 a b).1 c).1, by simp; omega⟩, fun c => by rw [g3] at c; cases c⟩, fun a => by omega⟩
      · omega
    · rw [if_neg hiG] at hx
      by_cases hi : i = L.length
      · rw [if_pos hi] at hx
        obtain ⟨y, hy, rfl⟩ := Option.map_eq_some_iff.1 hx
        rcases snoc_get hy with hy | ⟨_, rfl⟩
        · have := (List.getElem?_eq_some_iff.1 hy).1; omega
        · exact ⟨fun a => by omega, fun a b => by omega, fun a => ⟨rfl, by simp only; omega⟩⟩
      · rw [if_neg hi] at hx
        rcases snoc_get hx with hy | ⟨hi2, rfl⟩
        · obtain ⟨h1, h2, h3⟩ := hL i x hy
          have := (List.getElem?_eq_some_iff.1 hy).1
          refine ⟨h1, fun a b => ⟨fun c => ?_, (h2 a b).2⟩, fun a => by omega⟩
          exact absurd ((hG i).2 ⟨a, b, c⟩) hiG
        · omega
  · simp only at hP hL hl
    subst hP
    obtain ⟨m, hm⟩ : ∃ m, n - t = m + 1 := ⟨n - t - 1, by omega⟩
    rw [hm, lpN_succ]
    rw [do_fine 11 ⟨[3], 0, 7, false, 6⟩ rfl (by unfold fitsB; rw [ends_snoc _ (⟨3, m + 1, []⟩ : Pk)]; simp) (by unfold roomB; simp; omega)]
    refine ⟨rfl, Or.inr ⟨by omega, ?_⟩⟩
    show (backB ⟨L ++ [⟨7, 0, 0⟩], lpN m ++ [⟨3, m + 1, []⟩]⟩).P = _ ∧ LvC wi n k (t + 1) _ (backB ⟨L ++ [⟨7, 0, 0⟩], lpN m ++ [⟨3, m + 1, []⟩]⟩).L
    rw [back_snoc]
    refine ⟨by simp only; congr 1; omega, by simp [closeL_len, setA_len]; omega, fun i x hx => ?_⟩
    simp only at hx
    rw [closeL_get, if_neg (by simp), setA_get] at hx
    have e2 : (L ++ [(⟨7, 0, 0⟩ : Xi)]).length - 1 = L.length := by simp
    rw [e2] at hx
    by_cases hi : i = L.length
    · rw [if_pos hi] at hx
      obtain ⟨y, hy, rfl⟩ := Option.map_eq_some_iff.1 hx
      rcases snoc_get hy with hy | ⟨_, rfl⟩
      · have := (List.getElem?_eq_some_iff.1 hy).1; omega
      · exact ⟨fun a => by omega, fun a b => by omega, fun a => ⟨rfl, by simp only; omega⟩⟩
    · rw [if_neg hi] at hx
      rcases snoc_get hx with hy | ⟨hi2, rfl⟩
      · exact hL i x hy
      · omega
theorem sg_end {wi : Bool} {n k : Nat} {B : Bd} (h : Stg wi n k n B) (hn : 0 < n) : B.P = [] ∧ LvC wi n k n (((n + k * evL wi + 1 : Nat) : Int)) B.L := by
  rcases h with ⟨h, _⟩ | ⟨_, h1, h2⟩
  · omega
  · exact ⟨by rw [h1, Nat.sub_self]; rfl, h2⟩
theorem u8_inn {x : Int} (h : (Lit.int .u8 x).wf = true) : 0 ≤ x ∧ x ≤ 255 := by
  simpa [Lit.wf, IntKind.min, IntKind.max, IntKind.signed, IntKind.bits] using h
/-- What the i-th instruction is. -/
theorem leav_at {wi : Bool} {n k en : Nat} {L : List Xi} (h : LvC wi n k n (((n + k * evL wi + 1 : Nat) : Int)) L) (hen : en = n + k * evL wi) {i : Nat} {x : Xi} (hx : (L ++ [(⟨15, 0, 0⟩ : Xi)])[i]? = some x) :
    (i < n ∧ x.op = 5) ∨ (n ≤ i ∧ i < en ∧ lfL wi n i = true ∧ x.op = 9 ∧ x.a = (en : Int) + 1) ∨ (n ≤ i ∧ i < en ∧ lfL wi n i = false ∧ x.op = 4) ∨ (n ≤ i ∧ en ≤ i ∧ i < en + n ∧ x.op = 7 ∧ x.a = (n : Int) - ((i : Int) - (en : Int))) ∨ (n ≤ i ∧ en ≤ i ∧ ¬ i < en + n ∧ x.op = 15) := by
  obtain ⟨hl, hL⟩ := h
  rw [← hen] at hl hL
  rcases snoc_get hx with hx | ⟨rfl, rfl⟩
  · have hi := (List.getElem?_eq_some_iff.1 hx).1
    obtain ⟨h1, h2, h3⟩ := hL i x hx
    by_cases c1 : i < n
    · exact Or.inl ⟨c1, h1 c1⟩
    · by_cases c2 : i < en
      · cases hf : lfL wi n i with
        | true => exact Or.inr (Or.inl ⟨by omega, c2, rfl, ((h2 (by omega) c2).1 hf).1, by rw [((h2 (by omega) c2).1 hf).2]; omega⟩)
        | false => exact Or.inr (Or.inr (Or.inl ⟨by omega, c2, rfl, (h2 (by omega) c2).2 hf⟩))
      · exact Or.inr (Or.inr (Or.inr (Or.inl ⟨by omega, by omega, by omega, (h3 (by omega)).1, (h3 (by omega)).2⟩)))
  · exact Or.inr (Or.inr (Or.inr (Or.inr ⟨by omega, by omega, by omega, rfl⟩)))
set_option maxHeartbeats 8000000 in
set_option maxRecDepth 100000 in
theorem leav_walk (w : World) (lo : Int) (wlo : (Lit.int .u8 lo).wf = true) (le : Int) (wle : (Lit.int .u8 le).wf = true) (wi : Bool) :
    Calls Try.prog 9 #[.int .u8 lo, .int .u8 le, .bool wi] w fun e w' => e = .returned (.bool true) ∧ Mod [] w w' := by
  have hlo := u8_inn wlo
  have hle := u8_inn wle
  obtain ⟨m, hm⟩ := Int.eq_ofNat_of_zero_le (show 0 ≤ lo % 10 by omega)
  have hm2 : lo.tmod 10 = (m : Int) := by rw [Int.tmod_eq_emod_of_nonneg (by omega)]; exact hm
  have hmb : (m : Int) < 10 := by omega
  have hmw : IntKind.u8.wrap (m : Int) = (m : Int) := by rw [IntKind.wrap_u8]; omega
  have hmw2 : IntKind.i64.wrap (m : Int) = (m : Int) := by rw [IntKind.wrap_i64]; omega
  obtain ⟨k, hk⟩ := Int.eq_ofNat_of_zero_le (show 0 ≤ le % 11 by omega)
  have hk2 : le.tmod 11 = (k : Int) := by rw [Int.tmod_eq_emod_of_nonneg (by omega)]; exact hk
  have hkb : (k : Int) < 11 := by omega
  have hkw : IntKind.u8.wrap (k : Int) = (k : Int) := by rw [IntKind.wrap_u8]; omega
  have hkw2 : IntKind.i64.wrap (k : Int) = (k : Int) := by rw [IntKind.wrap_i64]; omega
  obtain ⟨n, hn⟩ : ∃ n, n = m + 1 := ⟨_, rfl⟩
  have HNm := Lib.hid hn
  have H1 := Lib.hid (shown_calls w)
  clear wlo wle hn
  go_enter Try.func9, Try.ntmps9
  go_wp2_with fail
  refine (H1.out).mono ?_
  rintro e w1 ⟨rfl, hm1⟩
  have H2 := Lib.hid (mb_new hm1)
  clear hm1 H1
  go_wp2_with fail
  refine (H2.out).mono ?_
  rintro e w2 ⟨b, rfl, hb⟩
  have h0 := Lib.hid hb
  clear hb H2
  go_upto_region 5 with fail
  go_cut [9, 10] (fun u v wx => u = .int .i64 (n : Int) ∧ v = .int .i64 (k : Int) ∧ wx = w2)
  case first =>
    go_wp2_with fail
    go_meet
    case rel => exact ⟨by have := HNm.out; rw [this]; go_num, rfl, rfl⟩
  case rest =>
  obtain ⟨rfl, rfl, rfl⟩ := hcut
  have hn0 : 0 < n := by have := HNm.out; omega
  have hnb : n ≤ 10 := by have := HNm.out; omega
  have hnI : (n : Int) ≤ 10 := by omega
  have HJ := Lib.hid (show k ≤ 10 by omega)
  clear hm hm2 hmb hmw hmw2 hk hk2 hkw hkw2 hlo hle
  go_wp2_with fail
  go_loopg [30] n (fun g z wr => ∃ i : Nat, z = .int .i64 (i : Int) ∧ i + g = n ∧ RowKit.Hid (Mb w wr b (dosB i) ∧ Inv (dosB i)))
  case atStart => exact ⟨0, rfl, by omega, Lib.hid ⟨h0.out, inv_new⟩⟩
  case round =>
    clear h0
    obtain ⟨i, rfl, hig, hi⟩ := hrel
    by_cases hlt : i < n
    · have hltI : (i : Int) < (n : Int) := by omega
      have kk := mb_do hi.out.1 9
      have ki := hi.out.2.does 9
      rw [dos_step (by omega)] at kk ki
      have K1 := Lib.hid kk
      have HK := Lib.hid (And.intro hig ki)
      clear kk ki hi hig hlt
      go_wp2_with fail
      refine (K1.out).mono ?_
      rintro e w3 ⟨rfl, hb3⟩
      have HB3 := Lib.hid hb3
      clear hb3 K1
      go_wp2_with fail
      go_roundg (gk - 1)
      case measure => have := HK.out.1; omega
      case rel => exact ⟨i + 1, by go_num, by have := HK.out.1; omega, Lib.hid ⟨HB3.out, HK.out.2⟩⟩
    · have hltI : ¬ (i : Int) < (n : Int) := by omega
      obtain rfl : i = n := by omega
      have h0 := Lib.hid (show ∃ B, Mb w wr b B ∧ Inv B ∧ Stl wi i 0 B from ⟨_, hi.out.1, hi.out.2, sl_new wi hn0⟩)
      clear hi hig hlt
      go_wp2_with fail
      go_loopg [37] k (fun g z wr => ∃ j : Nat, z = .int .i64 (j : Int) ∧ j + g = k ∧ RowKit.Hid (∃ B, Mb w wr b B ∧ Inv B ∧ Stl wi i j B))
      case atStart => exact ⟨0, rfl, by omega, h0⟩
      case round =>
        clear h0
        obtain ⟨j, rfl, hjg, hj⟩ := hrel
        obtain ⟨B, hB, hI, hS⟩ := hj.out
        clear hj
        by_cases hlt : j < k
        · have hltI : (j : Int) < (k : Int) := by omega
          cases wi with
          | false =>
            obtain ⟨h1, h2⟩ := leave_out hS hnb (by have := HJ.out; omega)
            have kk := mb_do hB 13
            rw [h1] at kk
            have K1 := Lib.hid kk
            have HK := Lib.hid (And.intro hjg (And.intro (hI.does 13) h2))
            clear kk hB hI hS h1 h2 hjg hlt
            go_wp2_with fail
            refine (K1.out).mono ?_
            rintro e w3 ⟨rfl, hb3⟩
            have HB3 := Lib.hid hb3
            clear hb3 K1
            go_wp2_with fail
            go_roundg (gk - 1)
            case measure => have := HK.out.1; omega
            case rel => exact ⟨j + 1, by go_num, by have := HK.out.1; omega, Lib.hid ⟨_, HB3.out, HK.out.2.1, HK.out.2.2⟩⟩
          | true =>
            obtain ⟨h1, h2, h3, h4⟩ := leave_in hS hnb (by have := HJ.out; omega)
            have kk := mb_do hB 1
            rw [h1] at kk
            have K1 := Lib.hid kk
            have HK := Lib.hid (And.intro hjg (And.intro (((hI.does 1).does 13).does 3) (And.intro h2 (And.intro h3 h4))))
            clear kk hB hI hS h1 h2 h3 h4 hjg hlt
            go_wp2_with fail
            refine (K1.out).mono ?_
            rintro e w3 ⟨rfl, hb3⟩
            have kk := mb_do hb3 13
            rw [HK.out.2.2.1] at kk
            have K2 := Lib.hid kk
            clear kk hb3 K1
            go_wp2_with fail
            refine (K2.out).mono ?_
            rintro e w4 ⟨rfl, hb4⟩
            have kk := mb_do hb4 3
            rw [HK.out.2.2.2.1] at kk
            have K3 := Lib.hid kk
            clear kk hb4 K2
            go_wp2_with fail
            refine (K3.out).mono ?_
            rintro e w5 ⟨rfl, hb5⟩
            have HB5 := Lib.hid hb5
            clear hb5 K3
            go_wp2_with fail
            go_roundg (gk - 1)
            case measure => have := HK.out.1; omega
            case rel => exact ⟨j + 1, by go_num, by have := HK.out.1; omega, Lib.hid ⟨_, HB5.out, HK.out.2.1, HK.out.2.2.2.2⟩⟩
        · have hltI : ¬ (j : Int) < (k : Int) := by omega
          obtain rfl : j = k := by omega
          have h0 := Lib.hid (show ∃ B, Mb w wr b B ∧ Inv B ∧ Stg wi i j 0 B from ⟨B, hB, hI, Or.inl ⟨rfl, hS⟩⟩)
          clear hB hI hS hjg hlt
          go_wp2_with fail
          go_loopg [66] i (fun g z wr => ∃ t : Nat, z = .int .i64 (t : Int) ∧ t + g = i ∧ RowKit.Hid (∃ B, Mb w wr b B ∧ Inv B ∧ Stg wi i j t B))
          case atStart => exact ⟨0, rfl, by omega, h0⟩
          case round =>
            clear h0
            obtain ⟨t, rfl, htg, ht⟩ := hrel
            obtain ⟨B, hB, hI, hS⟩ := ht.out
            clear ht
            by_cases hlt : t < i
            · have hltI : (t : Int) < (i : Int) := by omega
              obtain ⟨h1, h2⟩ := sg_step hS hlt hnb HJ.out
              have kk := mb_do hB 11
              rw [h1] at kk
              have K1 := Lib.hid kk
              have HK := Lib.hid (And.intro htg (And.intro (hI.does 11) h2))
              clear kk hB hI hS h1 h2 htg hlt
              go_wp2_with fail
              refine (K1.out).mono ?_
              rintro e w3 ⟨rfl, hb3⟩
              have HB3 := Lib.hid hb3
              clear hb3 K1
              go_wp2_with fail
              go_roundg (gk - 1)
              case measure => have := HK.out.1; omega
              case rel => exact ⟨t + 1, by go_num, by have := HK.out.1; omega, Lib.hid ⟨_, HB3.out, HK.out.2.1, HK.out.2.2⟩⟩
            · have hltI : ¬ (t : Int) < (i : Int) := by omega
              obtain rfl : t = i := by omega
              obtain ⟨L, P⟩ := B
              obtain ⟨hP, hLv⟩ := sg_end hS hn0
              simp only at hP hLv
              subst hP
              obtain ⟨en, hen⟩ : ∃ en, en = t + j * evL wi := ⟨_, rfl⟩
              have hev := ev_le wi j
              have hj10 := HJ.out
              have hLl : L.length = en + t := by rw [hLv.1, hen]
              have henb : en ≤ 30 := by omega
              have HL := Lib.hid (And.intro hLv (And.intro hen (And.intro hLl (may_of (by omega) hI))))
              have HE := Lib.hid (mb_end hB)
              clear hLv hev hj10 hLl hB hI hS htg hlt hen
              go_wp2_with fail
              refine (HE.out).mono ?_
              rintro e w5 ⟨A, cp, rfl, hme⟩
              obtain ⟨nn, hnn⟩ : ∃ nn, nn = (L ++ [(⟨15, 0, 0⟩ : Xi)]).length := ⟨_, rfl⟩
              rw [← hnn]
              have hnl : nn = en + t + 1 := by rw [hnn]; simp [HL.out.2.2.1]
              have mA := (Mod.refl [] w5).alloc (.cells #[.slice A nn cp] 41)
              have hdc : (w5.alloc (.cells #[.slice A nn cp] 41)).cell? ⟨w5.heap.size, 0, none⟩ = some (.slice A nn cp) := by rw [World.cell?_alloc_new]; rfl
              have HDC := Lib.hid hdc
              have HME := Lib.hid (And.intro (hme.ins.far mA) (And.intro (hme.m.trans mA) (And.intro hnn hnl)))
              have hnb2 : ((nn : Int) != (en : Int) + (t : Int) + 1) = false := by simp; omega
              have henI : (en : Int) ≤ 30 := by omega
              have hnnI : (nn : Int) ≤ 50 := by omega
              clear hme mA hnn hnl HE
              obtain ⟨v, hv⟩ : ∃ v : Nat, v = evL wi := ⟨_, rfl⟩
              obtain ⟨mv, hmv⟩ : ∃ mv : Nat, mv = j * v := ⟨_, rfl⟩
              have HV := Lib.hid hv
              have hmul : (j : Int) * (v : Int) = (mv : Int) := by rw [hmv]; simp
              have hmvb : mv ≤ 30 := by have := HL.out.2.1; rw [← hv, ← hmv] at this; omega
              have hmvI : (mv : Int) ≤ 30 := by omega
              have hsum : (t : Int) + (mv : Int) = (en : Int) := by have := HL.out.2.1; rw [← hv, ← hmv] at this; omega
              have HSM := Lib.hid (And.intro hmul hsum)
              clear hv hmv hmul hsum hmvb
              go_upto_if 77 with fail
              go_cut [13] (fun u wx => u = .int .i64 (v : Int) ∧ wx = w5.alloc (.cells #[.slice A nn cp] 41))
              case first =>
                have h := HV.out
                cases wi with
                | false =>
                  obtain rfl : v = 1 := h
                  clear hdc hnb2
                  go_wp2_with fail
                  go_meet
                  case rel => exact ⟨rfl, rfl⟩
                | true =>
                  obtain rfl : v = 2 := h
                  clear hdc hnb2
                  go_wp2_with fail
                  go_meet
                  case rel => exact ⟨rfl, rfl⟩
              case rest =>
              obtain ⟨rfl, rfl⟩ := hcut
              have hmul := HSM.out.1
              have hsum := HSM.out.2
              have henr : RowKit.Hid (t ≤ en) := Lib.hid (by omega)
              go_wp2_with fail
              clear hmul hsum
              clear hdc hnb2
              obtain ⟨W5, hW5⟩ : ∃ W5, W5 = w5.alloc (.cells #[.slice A nn cp] 41) := ⟨_, rfl⟩
              have HW5 := Lib.hid hW5
              rw [← hW5]
              clear hW5
              go_loopg [98] nn (fun g z wr => ∃ i : Nat, z = .int .i64 (i : Int) ∧ i + g = nn ∧ RowKit.Hid (Mod [] W5 wr))
              case atStart => exact ⟨0, rfl, by omega, Lib.hid (Mod.refl [] _)⟩
              case round =>
                obtain ⟨i, rfl, hig, hi⟩ := hrel
                by_cases hlt : i < nn
                · have hltI : (i : Int) < (nn : Int) := by omega
                  obtain ⟨x, hx⟩ : ∃ x, (L ++ [(⟨15, 0, 0⟩ : Xi)])[i]? = some x := ⟨_, List.getElem?_eq_getElem (by have := HME.out.2.2.1; omega)⟩
                  have hiW := hi.out
                  rw [HW5.out] at hiW
                  obtain ⟨bA, oA, rfl, hat, _⟩ := (HME.out.1.far hiW).get hx
                  have hc0 := hat.c0
                  have hc1 := hat.c1
                  have hc2 := hat.c2
                  have hcase := leav_at HL.out.1 HL.out.2.1 hx
                  obtain ⟨op, oa, ow⟩ := x
                  simp only at hcase hc0 hc1 hc2
                  have HK := Lib.hid (And.intro hig hi.out)
                  clear hx hiW hat hi hig hlt
                  rcases hcase with ⟨c1, rfl⟩ | ⟨c1, c2, c3, rfl, rfl⟩ | ⟨c1, c2, c3, rfl⟩ | ⟨c1, c2, c3, rfl, rfl⟩ | ⟨c1, c2, c3, rfl⟩
                  · have d1 : ¬ (t : Int) ≤ (i : Int) := by omega
                    have d2 : ¬ (en : Int) ≤ (i : Int) := by have := henr.out; omega
                    clear c1
                    go_wp2_with fail
                    go_roundg (gk - 1)
                    case measure => have := HK.out.1; omega
                    case rel => exact ⟨i + 1, by go_num, by have := HK.out.1; omega, Lib.hid (HK.out.2.alloc _)⟩
                  · have d1 : (t : Int) ≤ (i : Int) := by omega
                    have d2 : (i : Int) < (en : Int) := by omega
                    have d3 : ¬ (en : Int) ≤ (i : Int) := by omega
                    obtain ⟨r, hr⟩ : ∃ r : Nat, (i : Int) - (t : Int) = (r : Int) := ⟨i - t, by omega⟩
                    have hrI : (r : Int) ≤ 50 := by omega
                    cases wi with
                    | false =>
                      clear c1 c2 c3 hr
                      go_wp2_with fail
                      go_roundg (gk - 1)
                      case measure => have := HK.out.1; omega
                      case rel => exact ⟨i + 1, by go_num, by have := HK.out.1; omega, Lib.hid (HK.out.2.alloc _)⟩
                    | true =>
                      have hr2 : (r : Int) % 2 = 1 := by simp [lfL] at c3; omega
                      have hr3 : (r : Int).tmod 2 = 1 := by rw [Int.tmod_eq_emod_of_nonneg (by omega)]; exact hr2
                      clear c1 c2 c3
                      go_wp2_with fail
                      go_roundg (gk - 1)
                      case measure => have := HK.out.1; omega
                      case rel => exact ⟨i + 1, by go_num, by have := HK.out.1; omega, Lib.hid (HK.out.2.alloc _)⟩
                  · have d1 : (t : Int) ≤ (i : Int) := by omega
                    have d2 : (i : Int) < (en : Int) := by omega
                    have d3 : ¬ (en : Int) ≤ (i : Int) := by omega
                    obtain ⟨r, hr⟩ : ∃ r : Nat, (i : Int) - (t : Int) = (r : Int) := ⟨i - t, by omega⟩
                    have hrI : (r : Int) ≤ 50 := by omega
                    cases wi with
                    | false => simp [lfL] at c3
                    | true =>
                      have hr2 : (r : Int) % 2 = 0 := by simp [lfL] at c3; omega
                      have hr3 : (r : Int).tmod 2 = 0 := by rw [Int.tmod_eq_emod_of_nonneg (by omega)]; exact hr2
                      clear c1 c2 c3
                      go_wp2_with fail
                      go_roundg (gk - 1)
                      case measure => have := HK.out.1; omega
                      case rel => exact ⟨i + 1, by go_num, by have := HK.out.1; omega, Lib.hid (HK.out.2.alloc _)⟩
                  · have d1 : (t : Int) ≤ (i : Int) := by omega
                    have d2 : ¬ (i : Int) < (en : Int) := by omega
                    have d3 : (en : Int) ≤ (i : Int) := by omega
                    have d4 : (i : Int) < (en : Int) + (t : Int) := by omega
                    clear c1 c2 c3
                    go_wp2_with fail
                    go_roundg (gk - 1)
                    case measure => have := HK.out.1; omega
                    case rel => exact ⟨i + 1, by go_num, by have := HK.out.1; omega, Lib.hid (HK.out.2.alloc _)⟩
                  · have d1 : (t : Int) ≤ (i : Int) := by omega
                    have d2 : ¬ (i : Int) < (en : Int) := by omega
                    have d3 : (en : Int) ≤ (i : Int) := by omega
                    have d4 : ¬ (i : Int) < (en : Int) + (t : Int) := by omega
                    clear c1 c2 c3
                    go_wp2_with fail
                    go_roundg (gk - 1)
                    case measure => have := HK.out.1; omega
                    case rel => exact ⟨i + 1, by go_num, by have := HK.out.1; omega, Lib.hid (HK.out.2.alloc _)⟩
                · have hltI : ¬ (i : Int) < (nn : Int) := by omega
                  obtain rfl : i = nn := by omega
                  have hd6 := hi.out.cell (by simp) (show W5.cell? ⟨w5.heap.size, 0, none⟩ = some (.slice A i cp) by rw [HW5.out]; exact HDC.out)
                  have hm6 : Mod [] (w5.alloc (.cells #[.slice A i cp] 41)) wr := by rw [← HW5.out]; exact hi.out
                  have HM6 := Lib.hid (HME.out.2.1.trans hm6)
                  have H8 := Lib.hid (rmay_calls (cap := cp) (HME.out.1.far hm6) HME.out.2.2.1 (by omega) 0)
                  clear hi hig hlt hm6
                  go_wp2_with fail
                  refine (H8.out).mono ?_
                  intro e w8 kk
                  obtain ⟨rfl, hm8⟩ := may_tells HL.out.2.2.2 kk
                  have HM8 := Lib.hid (HM6.out.trans hm8)
                  clear hm8 kk H8 hd6
                  go_wp2_with fail
                  go_ret
                  exact ⟨by simp, HM8.out⟩
end Go.Proofs.Ytnclfopdgilgaaa
