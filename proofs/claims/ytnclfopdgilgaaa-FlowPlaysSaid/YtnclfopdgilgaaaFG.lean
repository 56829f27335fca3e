/- Layer 11 (package flow): parts are opened; gaps are moved; a part is gone back to. Condition: the block is a builder (Bl) with so many instructions and parts. -/
import Derived.Test.YtnclfopdgilgaaaFF
import Derived.Deep.RegionWith
namespace Go.Proofs.Ytnclfopdgilgaaa
open Go.RowKit
set_option linter.unusedVariables false

theorem Bl.lt {w : World} {p : Nat} {S : List Nat} {B : Bd} (h : Bl w p S B) : ∀ x ∈ S, x < w.heap.size := by
  obtain ⟨vc, vo, O, h, _, rfl⟩ := h
  exact h.lt
theorem Bl.mod {w w' : World} {p : Nat} {S T : List Nat} {B : Bd} (h : Bl w p S B) (m : Mod T w w') (hS : ∀ x ∈ S, x ∉ T) : Bl w' p S B := by
  obtain ⟨vc, vo, O, h, h2, rfl⟩ := h
  exact ⟨vc, vo, O, h.mod m hS, h2, rfl⟩
theorem Bl.far {w w' : World} {p : Nat} {S : List Nat} {B : Bd} (h : Bl w p S B) (m : Mod [] w w') : Bl w' p S B := h.mod m (by simp)
theorem begin_bl {w : World} {p : Nat} {S : List Nat} {B : Bd} (h : Bl w p S B) (hd : B.P.length ≤ 1000) (k : Nat) (kz : Int) (hk : kz = k) (v : Value) (g : List Nat) (hv : Gr w v g) (hs : ∀ b, v.ownBlock = some b → b ∉ S) :
    Calls Try.prog 62 #[Pt p, .int .i64 kz, v] w fun e w' => (∃ v, e = .returned v) ∧ ∃ S', Bl w' p S' (openB k g B) ∧ Mod S w w' ∧ ∀ x ∈ S', x ∈ S ∨ v.ownBlock = some x ∨ w.heap.size ≤ x := by
  obtain ⟨vc, vo, O, h, h2, rfl⟩ := h
  subst hk
  refine (begin_calls h (by rw [h2, List.length_map] at hd; exact hd) k v g hv hs).mono ?_
  rintro e w' ⟨hv2, vo', h3, h4, h5⟩
  exact ⟨hv2, _, ⟨vc, vo', _, h3, by simp [openB, h2], rfl⟩, h4, h5⟩
theorem last_bl {w : World} {p : Nat} {S : List Nat} {B : Bd} (h : Bl w p S B) (i : Nat) (hl : B.L.length = i + 1) (hi : i ≤ 999) : Calls Try.prog 63 #[Pt p] w fun e w' => e = .returned (.int .i64 (i : Int)) ∧ w = w' := by
  obtain ⟨vc, vo, O, h, h2, rfl⟩ := h
  refine (last_calls h (by omega)).mono ?_
  rintro e w' ⟨rfl, h3⟩
  exact ⟨by rw [hl]; congr 2; omega, h3⟩
theorem close_bl {w : World} {p : Nat} {S : List Nat} {L : List Xi} {C : List Pk} {q : Pk} (h : Bl w p S ⟨L, C ++ [q]⟩) (hd : C.length ≤ 1000) (hl : L.length ≤ 1000) (hq : ∀ i ∈ q.g, i < L.length) (hq2 : q.g.length ≤ 1000) :
    Calls Try.prog 43 #[Pt p] w fun e w' => (∃ v, e = .returned v) ∧ ∃ S', Bl w' p S' ⟨closeL L.length q.g L, C⟩ ∧ Turn S S' w w' := by
  obtain ⟨vc, vo, O, h, h2, rfl⟩ := h
  obtain ⟨A, v, rfl, rfl⟩ := snoc_map h2
  obtain ⟨g, cap, rfl, _⟩ := h.part
  refine (close_calls h (by simpa using hd) hl hq hq2).mono ?_
  rintro e w' ⟨hv, h3, h4⟩
  refine ⟨hv, _, ⟨vc, _, A, h3, rfl, rfl⟩, h4.up fun x hx => ?_, fun x hx => Or.inl ?_⟩
  · rcases List.mem_cons.1 hx with rfl | hx
    · exact mem_Sof.2 (Or.inl rfl)
    · rcases List.mem_cons.1 hx with rfl | hx
      · exact mem_Sof.2 (Or.inr (Or.inr (Or.inl rfl)))
      · exact mem_Sof.2 (Or.inr (Or.inl (by simpa using hx)))
  · rcases mem_Sof.1 hx with hx | hx | hx | ⟨y, hy, hx⟩
    · exact mem_Sof.2 (Or.inl hx)
    · exact mem_Sof.2 (Or.inr (Or.inl hx))
    · exact mem_Sof.2 (Or.inr (Or.inr (Or.inl hx)))
    · exact mem_Sof.2 (Or.inr (Or.inr (Or.inr ⟨y, by simp [hy], hx⟩)))
theorem goal_acts (B : Bd) (hd : B.P.length ≤ 1000) : Acts 44 B (openB 2 [] B) := fun w p S h => by
  have H := Lib.hid (begin_bl h hd 2 2 rfl (.slice none 0 0) [] (Ir.nil _ _) (fun b hb => by cases hb))
  clear h hd
  go_enter Try.func44, Try.ntmps44
  go_wp2_with fail
  refine (H.out).mono ?_
  rintro e w' ⟨⟨v, rfl⟩, S', h1, h2, h3⟩
  have HE := Lib.hid (And.intro h1 (And.intro h2 h3))
  clear h1 h2 h3
  go_wp2_with fail
  go_end0
  exact ⟨⟨_, rfl⟩, S', HE.out.1, HE.out.2.1, fun x hx => (HE.out.2.2 x hx).elim Or.inl fun hy => hy.elim (fun e => by cases e) Or.inr⟩
theorem loop_acts (B : Bd) (hd : B.P.length ≤ 1000) : Acts 48 B (openB 3 [] B) := fun w p S h => by
  have H := Lib.hid (begin_bl h hd 3 3 rfl (.slice none 0 0) [] (Ir.nil _ _) (fun b hb => by cases hb))
  clear h hd
  go_enter Try.func48, Try.ntmps48
  go_wp2_with fail
  refine (H.out).mono ?_
  rintro e w' ⟨⟨v, rfl⟩, S', h1, h2, h3⟩
  have HE := Lib.hid (And.intro h1 (And.intro h2 h3))
  clear h1 h2 h3
  go_wp2_with fail
  go_end0
  exact ⟨⟨_, rfl⟩, S', HE.out.1, HE.out.2.1, fun x hx => (HE.out.2.2 x hx).elim Or.inl fun hy => hy.elim (fun e => by cases e) Or.inr⟩
theorem choice_acts (B : Bd) (hd : B.P.length ≤ 1000) : Acts 51 B (openB 4 [] B) := fun w p S h => by
  have H := Lib.hid (begin_bl h hd 4 4 rfl (.slice none 0 0) [] (Ir.nil _ _) (fun b hb => by cases hb))
  clear h hd
  go_enter Try.func51, Try.ntmps51
  go_wp2_with fail
  refine (H.out).mono ?_
  rintro e w' ⟨⟨v, rfl⟩, S', h1, h2, h3⟩
  have HE := Lib.hid (And.intro h1 (And.intro h2 h3))
  clear h1 h2 h3
  go_wp2_with fail
  go_end0
  exact ⟨⟨_, rfl⟩, S', HE.out.1, HE.out.2.1, fun x hx => (HE.out.2.2 x hx).elim Or.inl fun hy => hy.elim (fun e => by cases e) Or.inr⟩
theorem gap_acts (B : Bd) (i : Nat) (hl : B.L.length = i + 1) (hi : i ≤ 999) (hd : B.P.length ≤ 1000) : Acts 41 B (openB 1 [B.L.length - 1] B) := fun w p S h => by
  have H1 := Lib.hid (last_bl h i hl hi)
  have hm := (Mod.refl [] w).alloc (.cells #[.int .i64 (i : Int)] 3)
  have H2 := Lib.hid (begin_bl (h.far hm) hd 1 1 rfl (.slice (some ⟨w.heap.size, 0, none⟩) 1 1) [i] (Ir.one w 0 (Nat.zero_le _) (i : Int)) (fun b hb hS => by
    have := h.lt b hS
    have : w.heap.size = b := Option.some.inj hb
    omega))
  have HM := Lib.hid (And.intro hm hl)
  clear h hd hm hl
  go_enter Try.func41, Try.ntmps41
  go_wp2_with fail
  refine (H1.out).mono ?_
  rintro e w' ⟨rfl, rfl⟩
  go_wp2_with fail
  refine (H2.out).mono ?_
  rintro e w' ⟨⟨v, rfl⟩, S', h1, h2, h3⟩
  have HE := Lib.hid (And.intro h1 (And.intro h2 h3))
  clear h1 h2 h3
  go_wp2_with fail
  go_end0
  refine ⟨⟨_, rfl⟩, S', by rw [HM.out.2, Nat.add_sub_cancel]; exact HE.out.1, (HM.out.1.up (by simp)).trans HE.out.2.1, fun x hx => (HE.out.2.2 x hx).imp id fun hy => hy.elim (fun e => ?_) (fun e => ?_)⟩
  · exact Nat.le_of_eq (Option.some.inj e)
  · exact Nat.le_trans HM.out.1.size e
theorem qloop_acts (B : Bd) (i : Nat) (hl : B.L.length = i + 1) (hi : i ≤ 999) (hd : B.P.length ≤ 1000) : Acts 49 B (openB 3 [B.L.length - 1] B) := fun w p S h => by
  have H1 := Lib.hid (last_bl h i hl hi)
  have hm := (Mod.refl [] w).alloc (.cells #[.int .i64 (i : Int)] 3)
  have H2 := Lib.hid (begin_bl (h.far hm) hd 3 3 rfl (.slice (some ⟨w.heap.size, 0, none⟩) 1 1) [i] (Ir.one w 0 (Nat.zero_le _) (i : Int)) (fun b hb hS => by
    have := h.lt b hS
    have : w.heap.size = b := Option.some.inj hb
    omega))
  have HM := Lib.hid (And.intro hm hl)
  clear h hd hm hl
  go_enter Try.func49, Try.ntmps49
  go_wp2_with fail
  refine (H1.out).mono ?_
  rintro e w' ⟨rfl, rfl⟩
  go_wp2_with fail
  refine (H2.out).mono ?_
  rintro e w' ⟨⟨v, rfl⟩, S', h1, h2, h3⟩
  have HE := Lib.hid (And.intro h1 (And.intro h2 h3))
  clear h1 h2 h3
  go_wp2_with fail
  go_end0
  refine ⟨⟨_, rfl⟩, S', by rw [HM.out.2, Nat.add_sub_cancel]; exact HE.out.1, (HM.out.1.up (by simp)).trans HE.out.2.1, fun x hx => (HE.out.2.2 x hx).imp id fun hy => hy.elim (fun e => ?_) (fun e => ?_)⟩
  · exact Nat.le_of_eq (Option.some.inj e)
  · exact Nat.le_trans HM.out.1.size e
theorem branch_acts (B : Bd) (i : Nat) (hl : B.L.length = i + 1) (hi : i ≤ 999) (hd : B.P.length ≤ 1000) : Acts 52 B (openB 5 [B.L.length - 1] B) := fun w p S h => by
  have H1 := Lib.hid (last_bl h i hl hi)
  have hm := (Mod.refl [] w).alloc (.cells #[.int .i64 (i : Int)] 3)
  have H2 := Lib.hid (begin_bl (h.far hm) hd 5 5 rfl (.slice (some ⟨w.heap.size, 0, none⟩) 1 1) [i] (Ir.one w 0 (Nat.zero_le _) (i : Int)) (fun b hb hS => by
    have := h.lt b hS
    have : w.heap.size = b := Option.some.inj hb
    omega))
  have HM := Lib.hid (And.intro hm hl)
  clear h hd hm hl
  go_enter Try.func52, Try.ntmps52
  go_wp2_with fail
  refine (H1.out).mono ?_
  rintro e w' ⟨rfl, rfl⟩
  go_wp2_with fail
  refine (H2.out).mono ?_
  rintro e w' ⟨⟨v, rfl⟩, S', h1, h2, h3⟩
  have HE := Lib.hid (And.intro h1 (And.intro h2 h3))
  clear h1 h2 h3
  go_wp2_with fail
  go_end0
  refine ⟨⟨_, rfl⟩, S', by rw [HM.out.2, Nat.add_sub_cancel]; exact HE.out.1, (HM.out.1.up (by simp)).trans HE.out.2.1, fun x hx => (HE.out.2.2 x hx).imp id fun hy => hy.elim (fun e => ?_) (fun e => ?_)⟩
  · exact Nat.le_of_eq (Option.some.inj e)
  · exact Nat.le_trans HM.out.1.size e
theorem move_acts (L : List Xi) (C : List Pk) (q : Pk) (i : Nat) (hl : L.length = i + 1) (hi : i ≤ 999) (hd : C.length ≤ 999) (hq : ∀ j ∈ q.g, j < L.length) (hq2 : q.g.length ≤ 1000) :
    Acts 42 ⟨L, C ++ [q]⟩ (openB 1 [L.length - 1] ⟨closeL L.length q.g L, C⟩) := fun w p S h => by
  have H1 := Lib.hid (close_bl h (by omega) (by omega) hq hq2)
  have G := gap_acts ⟨closeL L.length q.g L, C⟩ i (by rw [closeL_len]; exact hl) hi (by show C.length ≤ 1000; omega)
  rw [closeL_len] at G
  have HG := Lib.hid G
  clear h hd hl G hq hq2
  go_enter Try.func42, Try.ntmps42
  go_wp2_with fail
  refine (H1.out).mono ?_
  rintro e w1 ⟨⟨v, rfl⟩, S1, h1, h2⟩
  have H2 := Lib.hid (HG.out w1 p S1 h1)
  have HT := Lib.hid h2
  clear h1 h2
  go_wp2_with fail
  refine (H2.out).mono ?_
  rintro e w2 ⟨⟨v, rfl⟩, S2, h1, h2⟩
  have HE := Lib.hid (And.intro h1 h2)
  clear h1 h2
  go_wp2_with fail
  go_end0
  exact ⟨⟨_, rfl⟩, S2, HE.out.1, HT.out.trans HE.out.2⟩
end Go.Proofs.Ytnclfopdgilgaaa
