/- Layer 15: definitions that may be, told by how many loops are open. Plain. No condition. Layer 15: EngineBranches, plain. Plain. No condition. -/
import Derived.Test.YtifnkmddinoneaaGreatDoorCBAQ
import Derived.Test.YtifnkmddinoneaaGreatDoorCBAE
set_option maxRecDepth 100000
namespace Go.Proofs.YtifnkmddinoneaaGreatDoor
open Go.RowKit
set_option linter.unusedVariables false
theorem may_by {L : List L10.Xi} {words : Int} (f : Nat → Int) (hl : L.length ≤ 500) (hp : 0 < L.length) (h0 : f 0 = 0) (hr : ∀ k, k < L.length → 0 ≤ f k ∧ f k ≤ L.length)
    (hw : ∀ k x, L[k]? = some x → ∀ tm ∈ L10.waysX x k, ∃ t : Nat, tm.1 = t ∧ t < L.length ∧ f t = f k + tm.2) (he : L[L.length - 1]? = some ⟨15, 0, 0⟩) (hf : f (L.length - 1) = 0) (fit : L10.FitAll L words) : L10.MayP L words := by
  classical
  have reach : ∀ {i n : Int}, L10.Rh L i n → ∃ t : Nat, i = t ∧ t < L.length ∧ n = f t := by
    intro i n h
    induction h with
    | start => exact ⟨0, rfl, hp, h0.symm⟩
    | step r hx ht ih =>
      obtain ⟨t, e1, e2, e3⟩ := ih
      have e1 := Int.ofNat.inj e1
      subst e1
      obtain ⟨u, g1, g2, g3⟩ := hw _ _ hx _ ht
      exact ⟨u, g1, g2, by rw [e3, g3]⟩
  obtain ⟨o, ho⟩ : ∃ o : List Int, o = (List.range L.length).map fun (i : Nat) => if ∃ n, L10.Rh L (i : Int) n then f i else -1 := ⟨_, rfl⟩
  have hol : o.length = L.length := by rw [ho]; simp
  have oat : ∀ (i : Nat) v, o[i]? = some v → i < L.length ∧ v = if ∃ n, L10.Rh L (i : Int) n then f i else -1 := fun i v hv => by
    have hi := (List.getElem?_eq_some_iff.1 hv).1
    rw [hol] at hi
    rw [ho, List.getElem?_map, List.getElem?_range hi] at hv
    exact ⟨hi, by simpa using hv.symm⟩
  have onat : ∀ (t : Nat), t < L.length → (∃ n, L10.Rh L (t : Int) n) → o[t]? = some (f t) := fun t ht hr => by
    rw [ho, List.getElem?_map, List.getElem?_range ht]
    simp only [Option.map_some]
    rw [if_pos hr]
  have lab : L10.Lab L o := by
    refine ⟨hol, hp, ?_, fun k v hv hne => ?_, fun v hv => ?_, fun k v x hv hne hx => ?_⟩
    · rw [onat 0 hp ⟨0, L10.Rh.start⟩, h0]
    · obtain ⟨_, e⟩ := oat k v hv
      split at e
      · rename_i hh
        obtain ⟨n, hh⟩ := hh
        obtain ⟨t, e1, _, e2⟩ := reach hh
        have e1 := Int.ofNat.inj e1
        subst e1
        rw [e, ← e2]; exact hh
      · exact absurd e hne
    · obtain ⟨i, hi⟩ := List.mem_iff_getElem?.1 hv
      obtain ⟨h1, e⟩ := oat i v hi
      have := hr i h1
      rw [hol]
      split at e <;> omega
    · obtain ⟨hk, e⟩ := oat k v hv
      split at e
      · rename_i hh
        obtain ⟨n, hh⟩ := hh
        obtain ⟨t, e1, _, e2⟩ := reach hh
        have e1 := Int.ofNat.inj e1
        subst e1
        intro tm htm
        obtain ⟨u, g1, g2, g3⟩ := hw _ _ hx _ htm
        have hr2 := L10.Rh.step hh hx htm
        refine ⟨u, g1, ?_, ?_⟩
        · rw [e, ← g3]
          exact onat u g2 ⟨_, g1 ▸ hr2⟩
        · rw [e, ← g3]; exact (hr u g2).1
      · exact absurd e hne
  obtain ⟨vl, hvl⟩ : ∃ v, o[L.length - 1]? = some v := ⟨_, List.getElem?_eq_getElem (by rw [hol]; omega)⟩
  have hv0 : vl ≤ 0 := by
    obtain ⟨_, e⟩ := oat _ vl hvl
    split at e <;> omega
  refine ⟨hl, o, ⟨15, 0, 0⟩, vl, lab, he, hvl, ?_, fit⟩
  unfold L10.endX
  rw [decide_eq_true_eq]
  exact Or.inr ⟨rfl, hv0⟩
def FlatI (loc n words : Int) (k : Nat) (x : L10.Xi) : Prop := (∀ tm ∈ L10.waysX x k, 0 ≤ tm.1 ∧ tm.1 < n ∧ tm.2 = 0) ∧ L10.fitX loc n words k x = true
def FlatL (loc n words : Int) (at_ : Nat) (l : List L10.Xi) : Prop := ∀ k x, l[k]? = some x → FlatI loc n words (at_ + k) x
theorem FlatL.nil {loc n words : Int} {a : Nat} : FlatL loc n words a [] := fun k x h => by simp at h
theorem FlatL.cons {loc n words : Int} {a : Nat} {x : L10.Xi} {l : List L10.Xi} (h : FlatI loc n words a x) (k : FlatL loc n words (a + 1) l) : FlatL loc n words a (x :: l) := fun j y hy => by
  cases j with
  | zero => simp at hy; subst hy; exact h
  | succ j => simp at hy; have := k j y hy; rwa [Nat.add_assoc, Nat.add_comm 1 j] at this
theorem FlatL.app {loc n words : Int} : ∀ {a : Nat} {l m : List L10.Xi}, FlatL loc n words a l → FlatL loc n words (a + l.length) m → FlatL loc n words a (l ++ m) := fun {a l m} h k j y hy => by
  by_cases hj : j < l.length
  · rw [List.getElem?_append_left hj] at hy; exact h j y hy
  · rw [List.getElem?_append_right (by omega)] at hy
    have := k _ y hy
    rwa [show a + l.length + (j - l.length) = a + j by omega] at this
theorem may_flat {L : List L10.Xi} {words : Int} (hl : L.length ≤ 500) (he : L[L.length - 1]? = some ⟨15, 0, 0⟩) (h : FlatL (L10.locX L) L.length words 0 L) : L10.MayP L words := by
  have hp : 0 < L.length := by
    cases L with
    | nil => simp at he
    | cons => simp
  refine may_by (fun _ => 0) hl hp rfl (fun k _ => ⟨by decide, by omega⟩) (fun k x hx tm ht => ?_) he rfl fun k x hx => ?_
  · have := (h k x hx).1 tm (by rw [Nat.zero_add]; exact ht)
    exact ⟨tm.1.toNat, by omega, by omega, by omega⟩
  · have := (h k x hx).2
    rwa [Nat.zero_add] at this
section
variable {loc n words a w : Int} {k : Nat}
theorem fit_of {op : Nat} (h : 1 ≤ op ∧ op < 16) (h12 : op ≠ 12) (hs : (L10.spanX loc n words (L10.kindX op)).1 ≤ a ∧ a ≤ (L10.spanX loc n words (L10.kindX op)).2) (hw : op = 1 ∨ w = 0) : L10.fitX loc n words k ⟨op, a, w⟩ = true := by
  unfold L10.fitX L10.isOpX
  dsimp only
  rw [decide_eq_true h, decide_eq_true hs, decide_eq_false h12]
  simpa using hw
theorem flat_lit (hk : (k : Int) + 1 < n) : FlatI loc n words k ⟨1, 0, w⟩ := ⟨by simp [L10.waysX]; omega, fit_of (by decide) (by decide) (by simp [L10.kindX, L10.spanX]) (Or.inl rfl)⟩
theorem flat_jump (ha : 0 ≤ a ∧ a < n) : FlatI loc n words k ⟨3, a, 0⟩ := ⟨by simp [L10.waysX]; omega, fit_of (by decide) (by decide) (by simp [L10.kindX, L10.spanX]; omega) (Or.inr rfl)⟩
theorem flat_zero (hk : (k : Int) + 1 < n) (ha : 0 ≤ a ∧ a < n) : FlatI loc n words k ⟨4, a, 0⟩ := ⟨by simp [L10.waysX]; omega, fit_of (by decide) (by decide) (by simp [L10.kindX, L10.spanX]; omega) (Or.inr rfl)⟩
theorem flat_of (hk : (k : Int) + 1 < n) (ha : 0 ≤ a ∧ a < n) : FlatI loc n words k ⟨10, a, 0⟩ := ⟨by simp [L10.waysX]; omega, fit_of (by decide) (by decide) (by simp [L10.kindX, L10.spanX]; omega) (Or.inr rfl)⟩
theorem flat_drop (hk : (k : Int) + 1 < n) : FlatI loc n words k ⟨11, 0, 0⟩ := ⟨by simp [L10.waysX]; omega, fit_of (by decide) (by decide) (by simp [L10.kindX, L10.spanX]) (Or.inr rfl)⟩
theorem flat_exit : FlatI loc n words k ⟨15, 0, 0⟩ := ⟨by simp [L10.waysX], fit_of (by decide) (by decide) (by simp [L10.kindX, L10.spanX]) (Or.inr rfl)⟩
end
theorem may_shown : L10.MayP [⟨1, 0, 5⟩, ⟨15, 0, 0⟩] 0 := may_flat (by decide) rfl (.cons (flat_lit (by decide)) (.cons flat_exit .nil))
end Go.Proofs.YtifnkmddinoneaaGreatDoor
namespace Go.Proofs.YtifnkmddinoneaaGreatDoor
open Go.RowKit
set_option linter.unusedVariables false
def pieceB (i : Nat) (at_ : Nat) (c : Int) : List L10.Xi := if i % 2 = 0 then [⟨1, 0, c⟩, ⟨4, (at_ : Int) + 4, 0⟩, ⟨1, 0, 7⟩, ⟨3, (at_ : Int) + 5, 0⟩, ⟨1, 0, 9⟩]
  else [⟨1, 0, c⟩, ⟨1, 0, 0⟩, ⟨10, (at_ : Int) + 5, 0⟩, ⟨1, 0, 9⟩, ⟨3, (at_ : Int) + 7, 0⟩, ⟨11, 0, 0⟩, ⟨1, 0, 7⟩]
def codeB : Nat → Nat → List Int → List L10.Xi
  | _, _, [] => []
  | i, a, c :: r => pieceB i a c ++ codeB (i + 1) (a + (pieceB i a c).length) r
def wantB (c : Int) : Int := if c = 0 then 9 else 7
theorem piece_len (i a : Nat) (c : Int) : (pieceB i a c).length = if i % 2 = 0 then 5 else 7 := by unfold pieceB; split <;> rfl
theorem codeB_snoc (c : Int) : ∀ (l : List Int) (i a : Nat), codeB i a (l ++ [c]) = codeB i a l ++ pieceB (i + l.length) (a + (codeB i a l).length) c
  | [], i, a => by simp [codeB]
  | x :: r, i, a => by
    simp only [List.cons_append, codeB]
    rw [codeB_snoc c r]
    simp [Nat.add_assoc, Nat.add_comm, Nat.add_left_comm]
theorem branch_next {Y : List Int} {j n : Nat} {c : Int} (hj : j < Y.length) (hY : Y[j]? = some c) (hn : n = (codeB 0 0 (Y.take j)).length) : codeB 0 0 (Y.take (j + 1)) = codeB 0 0 (Y.take j) ++ pieceB j n c ∧ (Y.take (j + 1)).map wantB = (Y.take j).map wantB ++ [wantB c] := by
  have e : Y.take (j + 1) = Y.take j ++ [c] := by
    rw [List.take_succ_eq_append_getElem hj]
    rw [List.getElem?_eq_getElem hj] at hY
    injection hY with hY
    rw [hY]
  have hl : (Y.take j).length = j := by rw [List.length_take]; omega
  rw [e]
  refine ⟨?_, by simp⟩
  rw [codeB_snoc, hl, Nat.zero_add, Nat.zero_add, hn]
theorem codeB_le : ∀ (l : List Int) (i a : Nat), (codeB i a l).length ≤ 7 * l.length
  | [], i, a => by simp [codeB]
  | x :: r, i, a => by
    have := codeB_le r (i + 1) (a + (pieceB i a x).length)
    have h2 := piece_len i a x
    simp only [codeB, List.length_append, List.length_cons]
    split at h2 <;> omega
theorem flat_pieceB {loc n words : Int} (i a : Nat) (c : Int) (h : ((a + (pieceB i a c).length : Nat) : Int) < n) : FlatL loc n words a (pieceB i a c) := by
  have hl := piece_len i a c
  unfold pieceB at h ⊢
  by_cases hi : i % 2 = 0
  · rw [if_pos hi] at hl h ⊢
    simp only [List.length_cons, List.length_nil] at h
    exact .cons (flat_lit (by omega)) (.cons (flat_zero (by omega) (by omega)) (.cons (flat_lit (by omega)) (.cons (flat_jump (by omega)) (.cons (flat_lit (by omega)) .nil))))
  · rw [if_neg hi] at hl h ⊢
    simp only [List.length_cons, List.length_nil] at h
    exact .cons (flat_lit (by omega)) (.cons (flat_lit (by omega)) (.cons (flat_of (by omega) (by omega)) (.cons (flat_lit (by omega)) (.cons (flat_jump (by omega)) (.cons (flat_drop (by omega)) (.cons (flat_lit (by omega)) .nil))))))
theorem flat_codeB {loc n words : Int} : ∀ (l : List Int) (i a : Nat), ((a + (codeB i a l).length : Nat) : Int) < n → FlatL loc n words a (codeB i a l)
  | [], i, a, _ => .nil
  | c :: r, i, a, h => by
    simp only [codeB, List.length_append] at h ⊢
    exact .app (flat_pieceB i a c (by omega)) (flat_codeB r (i + 1) _ (by omega))
theorem last_exit (L : List L10.Xi) : (L ++ [⟨15, 0, 0⟩] : List L10.Xi)[(L ++ [⟨15, 0, 0⟩] : List L10.Xi).length - 1]? = some ⟨15, 0, 0⟩ := by simp
theorem may_branches (l : List Int) (hl : l.length ≤ 20) (words : Int) : L10.MayP (codeB 0 0 l ++ [⟨15, 0, 0⟩]) words := by
  have h := codeB_le l 0 0
  refine may_flat (by simp; omega) (last_exit _) (.app (flat_codeB l 0 0 (by simp; omega)) (.cons flat_exit .nil))
section
variable {W : List Wd} {μ : Mu} {I : List L8.Sc} {M : Nat} {D : List (List L10.Xi)} {F : List L14.Fm} {d : Int} {C : List Int}
def LiesD (D : List (List L10.Xi)) (d : Int) (a : Nat) (B : List L10.Xi) : Prop := ∀ k x, B[k]? = some x → InsD D d ((a + k : Nat) : Int) x
theorem LiesD.app {a : Nat} {B B' : List L10.Xi} (h : LiesD D d a (B ++ B')) : LiesD D d a B ∧ LiesD D d (a + B.length) B' := by
  refine ⟨fun k x hx => h k x ?_, fun k x hx => ?_⟩
  · rw [List.getElem?_append_left (List.getElem?_eq_some_iff.1 hx).1]; exact hx
  · have := h (B.length + k) x (by rw [List.getElem?_append_right (by omega), Nat.add_sub_cancel_left]; exact hx)
    rwa [Nat.add_assoc]
theorem LiesD.ins {a : Nat} {B : List L10.Xi} (h : LiesD D d a B) (k : Nat) {x : L10.Xi} (hx : B[k]? = some x) {i : Int} (hi : i = ((a + k : Nat) : Int)) : InsD D d i x := hi ▸ h k x hx
theorem LiesD.all {l : List L10.Xi} : LiesD (l :: D) 1 0 l := fun k x hx => insD1 (by omega) (by simpa using hx)
theorem branch_piece (hF : NoW F) (hC : C.length < 126) (i a : Nat) (c : Int) (h : LiesD D d a (pieceB i a c)) : ∃ k, k ≤ 5 ∧ Pth k ⟨W, D, F, d, (a : Int), 0, C, μ, I, M⟩ ⟨W, D, F, d, ((a + (pieceB i a c).length : Nat) : Int), 0, C ++ [wantB c], μ, I, M⟩ := by
  have hl := piece_len i a c
  unfold wantB
  by_cases hi : i % 2 = 0
  · rw [if_pos hi] at hl
    rw [hl]
    unfold pieceB at h
    rw [if_pos hi] at h
    have s1 := i_lit (W := W) (C := C) (μ := μ) (I := I) (M := M) (h.ins 0 rfl rfl) hF (by omega)
    have s2 := i_zero (W := W) (C := C) (x := c) (μ := μ) (I := I) (M := M) (h.ins 1 rfl (i := (a : Int) + 1) (by omega)) hF
    by_cases hc : c = 0
    · rw [if_pos hc] at s2 ⊢
      have s3 := i_lit (W := W) (C := C) (μ := μ) (I := I) (M := M) (h.ins 4 rfl (i := (a : Int) + 4) (by omega)) hF (by omega)
      exact ⟨3, by omega, (Pth.cons s1 (Pth.cons s2 s3.pth)).cast rfl (by congr 1)⟩
    · rw [if_neg hc] at s2 ⊢
      have s3 := i_lit (W := W) (C := C) (μ := μ) (I := I) (M := M) (h.ins 2 rfl (i := (a : Int) + 1 + 1) (by omega)) hF (by omega)
      have s4 := i_jump (W := W) (C := C ++ [7]) (μ := μ) (I := I) (M := M) (h.ins 3 rfl (i := (a : Int) + 1 + 1 + 1) (by omega)) hF
      exact ⟨4, by omega, (Pth.cons s1 (Pth.cons s2 (Pth.cons s3 s4.pth))).cast rfl (by congr 1)⟩
  · rw [if_neg hi] at hl
    rw [hl]
    unfold pieceB at h
    rw [if_neg hi] at h
    have s1 := i_lit (W := W) (C := C) (μ := μ) (I := I) (M := M) (h.ins 0 rfl rfl) hF (by omega)
    have s2 := i_lit (W := W) (C := C ++ [c]) (μ := μ) (I := I) (M := M) (h.ins 1 rfl (i := (a : Int) + 1) (by omega)) hF (by simp; omega)
    have s3 := i_of (W := W) (C := C) (x := c) (y := 0) (μ := μ) (I := I) (M := M) (h.ins 2 rfl (i := (a : Int) + 1 + 1) (by omega)) hF (by omega)
    rw [List.append_assoc] at s2
    by_cases hc : c = 0
    · rw [if_pos hc] at s3 ⊢
      have s4 := i_lit (W := W) (C := C) (μ := μ) (I := I) (M := M) (h.ins 3 rfl (i := (a : Int) + 1 + 1 + 1) (by omega)) hF (by omega)
      have s5 := i_jump (W := W) (C := C ++ [9]) (μ := μ) (I := I) (M := M) (h.ins 4 rfl (i := (a : Int) + 1 + 1 + 1 + 1) (by omega)) hF
      exact ⟨5, by omega, (Pth.cons s1 (Pth.cons s2 (Pth.cons s3 (Pth.cons s4 s5.pth)))).cast rfl (by congr 1)⟩
    · rw [if_neg hc] at s3 ⊢
      have s4 := i_drop (W := W) (C := C) (x := c) (μ := μ) (I := I) (M := M) (h.ins 5 rfl (i := (a : Int) + 5) (by omega)) hF
      have s5 := i_lit (W := W) (C := C) (μ := μ) (I := I) (M := M) (h.ins 6 rfl (i := (a : Int) + 5 + 1) (by omega)) hF (by omega)
      exact ⟨5, by omega, (Pth.cons s1 (Pth.cons s2 (Pth.cons s3 (Pth.cons s4 s5.pth)))).cast rfl (by congr 1)⟩
theorem branch_path (hF : NoW F) : ∀ (l : List Int) (C : List Int) (i a : Nat), C.length + l.length ≤ 100 → LiesD D d a (codeB i a l) → ∃ k, k ≤ 5 * l.length ∧ Pth k ⟨W, D, F, d, (a : Int), 0, C, μ, I, M⟩ ⟨W, D, F, d, ((a + (codeB i a l).length : Nat) : Int), 0, C ++ l.map wantB, μ, I, M⟩
  | [], C, i, a, _, _ => ⟨0, by omega, by simp [Pth, codeB]⟩
  | c :: r, C, i, a, hl, h => by
    simp only [codeB, List.length_cons] at h hl
    obtain ⟨h1, h2⟩ := h.app
    obtain ⟨k1, l1, p1⟩ := branch_piece (W := W) (μ := μ) (I := I) (M := M) hF (C := C) (by omega) i a c h1
    obtain ⟨k2, l2, p2⟩ := branch_path hF r (C ++ [wantB c]) (i + 1) _ (by simp; omega) h2
    refine ⟨k1 + k2, by simp only [List.length_cons]; omega, (p1.trans p2).cast rfl ?_⟩
    simp only [codeB, List.length_append, List.map_cons, List.append_assoc, List.cons_append, List.nil_append, Nat.add_assoc]
theorem branches_all {w : Int} {l : List Int} (hl : l.length ≤ 20) (hw : w ≠ 0) (h : WdN W w ⟨5, 1, 0⟩) : ∃ k, k < 300 ∧ Pth k ⟨W, [codeB 0 0 l ++ [⟨15, 0, 0⟩]], [], 0, 0, w, [], μ, I, M⟩ ⟨W, [codeB 0 0 l ++ [⟨15, 0, 0⟩]], [], 0, 0, 0, l.map wantB, μ, I, M⟩ := by
  have hF : NoW [frC] := by simp [NoW, topKind, frC]
  have hL : LiesD [codeB 0 0 l ++ [⟨15, 0, 0⟩]] 1 0 (codeB 0 0 l ++ [⟨15, 0, 0⟩]) := LiesD.all
  obtain ⟨h1, h2⟩ := hL.app
  have s1 := nxt_next (W := W) (D := [codeB 0 0 l ++ [⟨15, 0, 0⟩]]) (d := 0) (i := 0) (C := []) (μ := μ) (I := I) (M := M) hw (xec_colon (F := []) h (by decide) rfl (by decide))
  obtain ⟨k, l1, p1⟩ := branch_path (W := W) (μ := μ) (I := I) (M := M) (d := 1) hF l [] 0 0 (by simp; omega) h1
  have s2 := i_exit (W := W) (F := [frC]) (C := l.map wantB) (μ := μ) (I := I) (M := M) (h2.ins 0 rfl (i := ((0 + (codeB 0 0 l).length : Nat) : Int)) rfl) hF
  have s3 := nxt_return (W := W) (D := [codeB 0 0 l ++ [⟨15, 0, 0⟩]]) (F := []) (i := 0) (C := l.map wantB) (μ := μ) (I := I) (M := M) (a := 0) (b := 0) (x := 0) (y := 0) (l := [])
  exact ⟨_, by omega, (Pth.cons s1 (p1.snoc s2)).snoc s3⟩
end
end Go.Proofs.YtifnkmddinoneaaGreatDoor
