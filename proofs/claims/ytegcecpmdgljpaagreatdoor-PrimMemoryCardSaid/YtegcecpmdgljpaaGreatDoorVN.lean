/- Layer 13: PrimMemory's eight uses of its closure. Condition: numbers are of their kinds, and the place is one of the memory. -/
import Derived.Test.YtegcecpmdgljpaaGreatDoorVL
namespace Go.Proofs.YtegcecpmdgljpaaGreatDoor
open Go.RowKit
set_option linter.unusedVariables false

/-- Whatever state it is, and whatever is held: these operations. -/
def Does13 (ops X : List Int) (μ : Mu) (P : List Int) (μ' : Mu) : Prop := ∀ w0 a K, Runs w0 a K ops X μ P μ'
/-- The rest with its bytes and the place where data is given out. -/
def Ok13 (μ : Mu) (h : Int) : Prop := μ.B.length = 1024 ∧ μ.h = h
section
variable {μ : Mu} {h : Int} {o : Nat} {x y : Int}
theorem use_put (H : Ok13 μ h) (hx : I64 x) (ho : o + 8 ≤ 1024) (h8 : o % 8 = 0) : ∃ μ', Ok13 μ' h ∧ Does13 [74, 73] [(o : Int), x, (o : Int)] μ [x] μ' := by
  obtain ⟨hl, hh⟩ := H
  have hl' : (muP μ o (le8 x)).B.length = 1024 := by rw [muP_len _ _ _ (by rw [le8_len]; omega)]; exact hl
  refine ⟨muP μ o (le8 x), ⟨hl', hh⟩, fun w0 a K => ⟨_, _, fun w h => h.ok (R := [(o : Int)]) (X := [x, (o : Int)]) (n := 74) (by decide) rfl (put_uni μ o x hx (by omega) h8) (by simp) (by simp), _, _, fun w h => ?_, rfl, rfl⟩⟩
  have := (show Lv w0 w a K ([] ++ [(o : Int)]) (muP μ o (le8 x)) from h).ok (n := 73) (by decide) rfl (get_uni (muP μ o (le8 x)) o (by omega) h8) (one_in (cellOf_i64 _)) (by simp)
  rw [show cell8 (((muP μ o (le8 x)).B.drop o).take 8) = x from cell_back μ.B o x hx (by omega)] at this
  exact this
theorem use_two (H : Ok13 μ h) (hx : I64 x) (hy : I64 y) (ho : o + 16 ≤ 1024) (h8 : o % 8 = 0) : ∃ μ', Ok13 μ' h ∧ cell8 ((μ'.B.drop o).take 8) = y ∧ Does13 [79, 78] [(o : Int), x, y, (o : Int)] μ [x, y] μ' := by
  obtain ⟨hl, hh⟩ := H
  have l1 : (muP μ (o + 8) (le8 x)).B.length = 1024 := by rw [muP_len _ _ _ (by rw [le8_len]; omega)]; exact hl
  have l2 : (muP (muP μ (o + 8) (le8 x)) o (le8 y)).B.length = 1024 := by rw [muP_len _ _ _ (by rw [le8_len]; omega)]; exact l1
  have c1 : cell8 (((muP (muP μ (o + 8) (le8 x)) o (le8 y)).B.drop o).take 8) = y := cell_back _ o y hy (by omega)
  have c2 : cell8 (((muP (muP μ (o + 8) (le8 x)) o (le8 y)).B.drop (o + 8)).take 8) = x := by
    rw [show (muP (muP μ (o + 8) (le8 x)) o (le8 y)).B = splice (muP μ (o + 8) (le8 x)).B o (le8 y) from rfl, cell_beh _ o y (by omega)]
    exact cell_back μ.B (o + 8) x hx (by omega)
  refine ⟨muP (muP μ (o + 8) (le8 x)) o (le8 y), ⟨l2, hh⟩, c1, fun w0 a K => ⟨_, _, fun w h => h.ok (R := [(o : Int)]) (X := [x, y, (o : Int)]) (n := 79) (by decide) rfl (put2_uni μ o x y hx hy (by omega) h8) (by simp) (by simp), _, _, fun w h => ?_, rfl, rfl⟩⟩
  have := (show Lv w0 w a K ([] ++ [(o : Int)]) (muP (muP μ (o + 8) (le8 x)) o (le8 y)) from h).ok (n := 78) (by decide) rfl (get2_uni _ o (by omega) h8) (two_in (cellOf_i64 _) (cellOf_i64 _)) (by simp)
  rw [c1, c2] at this
  exact this
theorem use_add (H : Ok13 μ h) (hc : cell8 ((μ.B.drop o).take 8) = y) (ho : o + 8 ≤ 1024) (h8 : o % 8 = 0) : ∃ μ', Ok13 μ' h ∧ Does13 [77, 73] [(o : Int), x, (o : Int)] μ [wrap64 (x + y)] μ' := by
  obtain ⟨hl, hh⟩ := H
  have l1 : (muP μ o (le8 (wrap64 (y + x)))).B.length = 1024 := by rw [muP_len _ _ _ (by rw [le8_len]; omega)]; exact hl
  refine ⟨muP μ o (le8 (wrap64 (y + x))), ⟨l1, hh⟩, fun w0 a K => ⟨_, _, fun w h => h.ok (R := [(o : Int)]) (X := [x, (o : Int)]) (n := 77) (by decide) rfl (addto_uni μ o x y hc (by omega) h8) (by simp) (by simp), _, _, fun w h => ?_, rfl, rfl⟩⟩
  have := (show Lv w0 w a K ([] ++ [(o : Int)]) (muP μ o (le8 (wrap64 (y + x)))) from h).ok (n := 73) (by decide) rfl (get_uni _ o (by omega) h8) (one_in (cellOf_i64 _)) (by simp)
  rw [show cell8 (((muP μ o (le8 (wrap64 (y + x)))).B.drop o).take 8) = wrap64 (x + y) by rw [Int.add_comm x y]; exact cell_back μ.B o _ (i64_wrap _) (by omega)] at this
  exact this
theorem use_byte (H : Ok13 μ h) (c : UInt8) (ho : o < 1024) : ∃ μ', Ok13 μ' h ∧ (∃ hb : o < μ'.B.length, μ'.B[o] = c) ∧ Does13 [76, 75] [(o : Int), (c.toNat : Int) + 256, (o : Int)] μ [(c.toNat : Int)] μ' := by
  obtain ⟨hl, hh⟩ := H
  have hle : o + [c].length ≤ μ.B.length := by simp; omega
  have l1 : (muP μ o [c]).B.length = 1024 := by rw [muP_len _ _ _ hle]; exact hl
  have hb : (muP μ o [c]).B[o]'(by omega) = c := by
    have h := splice_back μ.B o [c] hle
    have h2 : ((splice μ.B o [c]).drop o).take 1 = [c] := h
    rw [List.drop_eq_getElem_cons (by have := splice_len hle; omega)] at h2
    exact (List.cons.inj h2).1
  refine ⟨muP μ o [c], ⟨l1, hh⟩, ⟨by omega, hb⟩, fun w0 a K => ⟨_, _, fun w h => h.ok (R := [(o : Int)]) (X := [(c.toNat : Int) + 256, (o : Int)]) (n := 76) (by decide) rfl (putc_uni μ o c (by omega)) (by simp) (by simp), _, _, fun w h => ?_, rfl, rfl⟩⟩
  have := (show Lv w0 w a K ([] ++ [(o : Int)]) (muP μ o [c]) from h).ok (n := 75) (by decide) rfl (getc_uni _ o (by omega)) (one_in (byte_i64 _)) (by simp)
  rw [hb] at this
  exact this
theorem use_count (H : Ok13 μ h) (c : UInt8) (hb : ∃ hb : o < μ.B.length, μ.B[o] = c) (ho : o < 1024) : Does13 [89] [(o : Int)] μ [((o + 1 : Nat) : Int), (c.toNat : Int)] μ := fun w0 a K => by
  obtain ⟨hl, hh⟩ := H
  obtain ⟨h1, h2⟩ := hb
  refine ⟨_, _, fun w h => ?_, rfl, rfl⟩
  have := (show Lv w0 w a K ([] ++ [(o : Int)]) μ from h).ok (n := 89) (by decide) rfl (count_uni μ o h1 (by omega)) (two_in (by unfold I64; omega) (byte_i64 _)) (by simp)
  rw [h2] at this
  exact this
theorem use_comma (H : Ok13 μ 8) (hx : I64 x) : ∃ μ', Ok13 μ' 16 ∧ Does13 [84, 82] [x] μ [16] μ' := by
  obtain ⟨hl, hh⟩ := H
  refine ⟨{ muP μ 8 (le8 x) with h := 16 }, ⟨by show (muP μ 8 (le8 x)).B.length = 1024; rw [muP_len _ _ _ (by rw [le8_len]; omega)]; exact hl, rfl⟩, fun w0 a K => ⟨_, _, fun w h => (show Lv w0 w a K ([] ++ [x]) μ from h).ok (n := 84) (by decide) rfl (comma_uni μ x hx hh hl) (by simp) (by simp), _, _, fun w h => ?_, rfl, rfl⟩⟩
  exact (show Lv w0 w a K ([] ++ []) { muP μ 8 (le8 x) with h := 16 } from h).ok (n := 82) (by decide) rfl (act_82 _) (one_in (by show I64 16; unfold I64; omega)) (by simp)
theorem use_fill (H : Ok13 μ h) (c : UInt8) (ho : o + 8 ≤ 1024) (h8 : o % 8 = 0) : ∃ μ', Ok13 μ' h ∧ Does13 [80, 73] [(o : Int), (o : Int), 8, (c.toNat : Int)] μ [wrap64 ((c.toNat : Int) * 72340172838076673)] μ' := by
  obtain ⟨hl, hh⟩ := H
  have hle : o + (List.replicate 8 c).length ≤ μ.B.length := by rw [List.length_replicate]; omega
  have l1 : (muP μ o (List.replicate 8 c)).B.length = 1024 := by rw [muP_len _ _ _ hle]; exact hl
  refine ⟨muP μ o (List.replicate 8 c), ⟨l1, hh⟩, fun w0 a K => ⟨_, _, fun w h => h.ok (R := [(o : Int)]) (X := [(o : Int), 8, (c.toNat : Int)]) (n := 80) (by decide) rfl (fill_uni μ o c (by omega)) (by simp) (by simp), _, _, fun w h => ?_, rfl, rfl⟩⟩
  have := (show Lv w0 w a K ([] ++ [(o : Int)]) (muP μ o (List.replicate 8 c)) from h).ok (n := 73) (by decide) rfl (get_uni _ o (by omega) h8) (one_in (cellOf_i64 _)) (by simp)
  have e := splice_back μ.B o (List.replicate 8 c) hle
  rw [List.length_replicate] at e
  rw [show cell8 (((muP μ o (List.replicate 8 c)).B.drop o).take 8) = wrap64 ((c.toNat : Int) * 72340172838076673) by
    rw [show ((muP μ o (List.replicate 8 c)).B.drop o).take 8 = List.replicate 8 c from e]
    exact cell_eight c] at this
  exact this
theorem use_al (hx : I64 x) : Does13 [87, 28, 87] [x] μ [al8 x, al8 x] μ := fun w0 a K => by
  obtain ⟨f1, f2, _⟩ := al8_facts x hx
  refine ⟨[] ++ [al8 x], μ, fun w h => (show Lv w0 w a K ([] ++ [x]) μ from h).ok (n := 87) (by decide) rfl (act_87 x μ) (one_in f1) (by simp), [al8 x, al8 x], μ, fun w h => ?_, [al8 x] ++ [al8 (al8 x)], μ, fun w h => ?_, ?_, rfl⟩
  · have := (show Lv w0 w a K [al8 x] μ from h).stk 28 (by decide)
    rw [show doL 28 [al8 x] = (0, [al8 x, al8 x]) from rfl] at this
    exact this
  · exact (show Lv w0 w a K ([al8 x] ++ [al8 x]) μ from h).ok (n := 87) (by decide) rfl (act_87 (al8 x) μ) (one_in (al8_facts (al8 x) f1).1) (by simp)
  · show [al8 x] ++ [al8 (al8 x)] = [al8 x, al8 x]
    rw [f2]
    rfl
end
end Go.Proofs.YtegcecpmdgljpaaGreatDoor
