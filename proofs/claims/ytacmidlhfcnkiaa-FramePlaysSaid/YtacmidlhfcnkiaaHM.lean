/- Layer 14: the program's frames and the document's, side by side (Fp); each call on either. No condition. -/
import Derived.Test.YtacmidlhfcnkiaaHK
import Derived.Test.YtacmidlhfcnkiaaHI
import Derived.Test.YtacmidlhfcnkiaaGZ
namespace Go.Proofs.Ytacmidlhfcnkiaa
open Go.RowKit
set_option linter.unusedVariables false

/-- The program's frames at p (L) and the document's at q (M), new since w0, where nothing older turned; the blocks D lie apart from theirs. -/
def Fp (w0 w : World) (p q : Nat) (L M : List Fm) (D : List Nat) : Prop :=
  ∃ T U, Fr TP w p T L ∧ Fr TR w q U M ∧ (∀ x ∈ T, w0.heap.size ≤ x ∧ x ∉ U) ∧ (∀ x ∈ U, w0.heap.size ≤ x) ∧ Mod [] w0 w ∧ ∀ b ∈ D, b ∉ T ∧ b ∉ U ∧ b < w.heap.size
section
variable {w0 w w' : World} {p q : Nat} {L M L' M' : List Fm} {D : List Nat}
theorem Fp.mod (h : Fp w0 w p q L M D) : Mod [] w0 w := by obtain ⟨T, U, _, _, _, _, m, _⟩ := h; exact m
theorem Fp.far (h : Fp w0 w p q L M D) (m : Mod [] w w') : Fp w0 w' p q L M D := by
  obtain ⟨T, U, hP, hR, hT, hU, m0, hD⟩ := h
  exact ⟨T, U, hP.far m, hR.far m, hT, hU, m0.trans m, fun b hb => ⟨(hD b hb).1, (hD b hb).2.1, Nat.lt_of_lt_of_le (hD b hb).2.2 m.size⟩⟩
theorem Fp.less {D' : List Nat} (h : Fp w0 w p q L M D) (hs : ∀ b ∈ D', b ∈ D) : Fp w0 w p q L M D' := by
  obtain ⟨T, U, hP, hR, hT, hU, m0, hD⟩ := h
  exact ⟨T, U, hP, hR, hT, hU, m0, fun b hb => hD b (hs b hb)⟩
/-- A block kept beside, or a new one, is stored into. -/
theorem Fp.store {b : Nat} (h : Fp w0 w p q L M D) (hb : b ∈ D) (hw : w0.heap.size ≤ b) (m : Mod [b] w w') : Fp w0 w' p q L M D := by
  obtain ⟨T, U, hP, hR, hT, hU, m0, hD⟩ := h
  exact ⟨T, U, hP.mod m fun x hx => by simp; rintro rfl; exact (hD x hb).1 hx, hR.mod m fun x hx => by simp; rintro rfl; exact (hD x hb).2.1 hx, hT, hU, m0.far1 m hw, fun x hx => ⟨(hD x hx).1, (hD x hx).2.1, Nat.lt_of_lt_of_le (hD x hx).2.2 m.size⟩⟩
theorem Fp.add {b : Nat} (h : Fp w0 w p q L M D) (m : Mod [] w w') (h1 : w.heap.size ≤ b) (h2 : b < w'.heap.size) : Fp w0 w' p q L M (b :: D) := by
  obtain ⟨T, U, hP, hR, hT, hU, m0, hD⟩ := h
  refine ⟨T, U, hP.far m, hR.far m, hT, hU, m0.trans m, fun x hx => ?_⟩
  rcases List.mem_cons.1 hx with rfl | hx
  · exact ⟨hP.above h1, hR.above h1, h2⟩
  · exact ⟨(hD x hx).1, (hD x hx).2.1, Nat.lt_of_lt_of_le (hD x hx).2.2 m.size⟩
theorem Fp.smallP (h : Fp w0 w p q L M D) : ∀ r ∈ L, r.l.length ≤ 1000 := by obtain ⟨T, U, hP, _⟩ := h; exact hP.small
theorem Fp.fewP (h : Fp w0 w p q L M D) : L.length ≤ 128 := by obtain ⟨T, U, hP, _⟩ := h; exact hP.few
/-- The program's frames turn, and a frame is told (or none: nil). -/
theorem Fp.gone {T T' U : List Nat} {s' : Value} {l : List Int} (hP : Fr TP w p T L) (hR : Fr TR w q U M) (hT : ∀ x ∈ T, w0.heap.size ≤ x ∧ x ∉ U) (hU : ∀ x ∈ U, w0.heap.size ≤ x) (m : Mod [] w0 w) (hD : ∀ b ∈ D, b ∉ T ∧ b ∉ U ∧ b < w.heap.size)
    (hF : Fr TP w' p T' L') (hu : Turn T T' w w') (hl : Lc w' s' l) (hs : ∀ g, s'.ownBlock = some g → (g ∈ T ∨ w.heap.size ≤ g) ∧ g ∉ T') : Fp w0 w' p q L' M (s'.ownBlock.toList ++ D) ∧ Kp D w w' := by
  refine ⟨⟨T', U, hF, hR.mod hu.1 fun x hx hxT => (hT x hxT).2 hx, fun x hx => ?_, hU, m.then hu.1 fun x hx => Or.inr (hT x hx).1, fun b hb => ?_⟩, Kp.of_mod hu.1 fun b hb => (hD b hb).1⟩
  · rcases hu.2 x hx with hx | hl
    · exact hT x hx
    · exact ⟨Nat.le_trans m.size hl, hR.above hl⟩
  · rcases List.mem_append.1 hb with hb | hb
    · have hb' : s'.ownBlock = some b := by simpa using hb
      refine ⟨(hs b hb').2, ?_, hl.lt b hb'⟩
      rcases (hs b hb').1 with h1 | h1
      · exact (hT b h1).2
      · exact hR.above h1
    · exact ⟨fun hx => (hu.2 b hx).elim (hD b hb).1 fun hl => by have := (hD b hb).2.2; omega, (hD b hb).2.1, Nat.lt_of_lt_of_le (hD b hb).2.2 hu.1.size⟩
theorem Fp.goneR {T U U' : List Nat} {s' : Value} {l : List Int} (hP : Fr TP w p T L) (hR : Fr TR w q U M) (hT : ∀ x ∈ T, w0.heap.size ≤ x ∧ x ∉ U) (hU : ∀ x ∈ U, w0.heap.size ≤ x) (m : Mod [] w0 w) (hD : ∀ b ∈ D, b ∉ T ∧ b ∉ U ∧ b < w.heap.size)
    (hF : Fr TR w' q U' M') (hu : Turn U U' w w') (hl : Lc w' s' l) (hs : ∀ g, s'.ownBlock = some g → (g ∈ U ∨ w.heap.size ≤ g) ∧ g ∉ U') : Fp w0 w' p q L M' (s'.ownBlock.toList ++ D) ∧ Kp D w w' := by
  refine ⟨⟨T, U', hP.mod hu.1 fun x hx hxU => (hT x hx).2 hxU, hF, fun x hx => ⟨(hT x hx).1, fun hxU => ?_⟩, fun x hx => ?_, m.then hu.1 fun x hx => Or.inr (hU x hx), fun b hb => ?_⟩, Kp.of_mod hu.1 fun b hb => (hD b hb).2.1⟩
  · rcases hu.2 x hxU with h1 | h1
    · exact (hT x hx).2 h1
    · have := hP.lt x hx; omega
  · rcases hu.2 x hx with hx | hl
    · exact hU x hx
    · exact Nat.le_trans m.size hl
  · rcases List.mem_append.1 hb with hb | hb
    · have hb' : s'.ownBlock = some b := by simpa using hb
      refine ⟨?_, (hs b hb').2, hl.lt b hb'⟩
      rcases (hs b hb').1 with h1 | h1
      · exact fun hx => (hT b hx).2 h1
      · exact hP.above h1
    · exact ⟨(hD b hb).1, fun hx => (hu.2 b hx).elim (hD b hb).2.1 fun hl => by have := (hD b hb).2.2; omega, Nat.lt_of_lt_of_le (hD b hb).2.2 hu.1.size⟩
theorem Fp.turn {T T' U : List Nat} (hP : Fr TP w p T L) (hR : Fr TR w q U M) (hT : ∀ x ∈ T, w0.heap.size ≤ x ∧ x ∉ U) (hU : ∀ x ∈ U, w0.heap.size ≤ x) (m : Mod [] w0 w) (hD : ∀ b ∈ D, b ∉ T ∧ b ∉ U ∧ b < w.heap.size) (hF : Fr TP w' p T' L') (hu : Turn T T' w w') : Fp w0 w' p q L' M D ∧ Kp D w w' := by
  have := Fp.gone hP hR hT hU m hD hF hu (Lc.nil w') (fun g hg => by cases hg)
  exact this
theorem Fp.turnR {T U U' : List Nat} (hP : Fr TP w p T L) (hR : Fr TR w q U M) (hT : ∀ x ∈ T, w0.heap.size ≤ x ∧ x ∉ U) (hU : ∀ x ∈ U, w0.heap.size ≤ x) (m : Mod [] w0 w) (hD : ∀ b ∈ D, b ∉ T ∧ b ∉ U ∧ b < w.heap.size) (hF : Fr TR w' q U' M') (hu : Turn U U' w w') : Fp w0 w' p q L M' D ∧ Kp D w w' := by
  have := Fp.goneR hP hR hT hU m hD hF hu (Lc.nil w') (fun g hg => by cases hg)
  exact this
end
/-- Catch, whatever is there. -/
theorem catch_calls {w : World} {p : Nat} {T : List Nat} {L : List Fm} (h : Fr TP w p T L) : Calls Try.prog 26 #[Pt p] w (Gone TP w p T ((caught L).getD zF) (.bool (caught L).isSome) (catchL L)) := by
  rcases top_cases isCatch L with hn | ⟨A, r, B, rfl, hq, hB⟩
  · have e := catch_none hn
    rw [e.2.2, e.2.1]
    exact (catch_no h hn).mono fun e w' ⟨h1, h2⟩ => ⟨.slice none 0 0, h1, Lc.nil _, T, h.far h2, (Turn.refl T w).far h2, fun g hg => by cases hg⟩
  · have e := catch_is (A := A) (q := r) (B := B) hq hB
    rw [e.2.2, e.2.1]
    exact catch_yes h (by simpa [isCatch] using hq) hB
/-- Pop of the document's, whatever is there. -/
theorem rpop_calls {w : World} {p : Nat} {T : List Nat} {L : List Fm} (h : Fr TR w p T L) (k : Int) : Calls Try.prog 29 #[Pt p, .int .i64 k] w (Gone TR w p T ((topK k L).getD zF) (.int .i64 (errK k (-6) L)) (popL k L)) := by
  rcases snoc_cases L with rfl | ⟨A, q, rfl⟩
  · exact rpop_nil h k
  · by_cases hk : q.k = k
    · subst hk
      have := rpop_right h
      rw [topK_snoc, if_pos rfl, (topK_some rfl).1, (topK_some rfl).2]
      exact this
    · have := rpop_wrong h k hk
      have e : topK k (A ++ [q]) = none := by rw [topK_snoc, if_neg hk]
      rw [e, (topK_no e).1, (topK_no e).2]
      exact this
theorem rtop_calls {w : World} {p : Nat} {T : List Nat} {L : List Fm} (h : Fr TR w p T L) : Calls Try.prog 16 #[Pt p] w (Tops w (topV L) (.bool L.getLast?.isSome)) := by
  rcases snoc_cases L with rfl | ⟨A, q, rfl⟩
  · exact (rtop_nil h).mono fun e w' ⟨h1, h2⟩ => ⟨.slice none 0 0, h1, ⟨Lc.nil _, fun g hg => by cases hg⟩, h2⟩
  · have := rtop_snoc h
    rw [topV_snoc]
    simpa using this
end Go.Proofs.Ytacmidlhfcnkiaa
