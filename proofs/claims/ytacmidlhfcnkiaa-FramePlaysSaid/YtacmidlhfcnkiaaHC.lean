/- Layer 14: the document's Cut, Index, locals, Local. Condition: the block is frames (Fr). -/
import Derived.Test.YtacmidlhfcnkiaaHB
import Derived.Deep.LoopGhost
namespace Go.Proofs.Ytacmidlhfcnkiaa
open Go.RowKit
set_option linter.unusedVariables false

theorem cut_less {n : Int} {L : List Fm} {g : Nat} (h : n.toNat ≤ g) : cutL n (L.take (g + 1)) = cutL n (L.take g) := by
  unfold cutL
  rw [List.take_take, List.take_take]
  congr 1
  omega
theorem cut_end {n : Int} {L : List Fm} {g : Nat} (h : g ≤ n.toNat) : cutL n (L.take g) = L.take g := by
  unfold cutL
  rw [List.take_take]
  congr 1
  omega
set_option maxHeartbeats 4000000 in
theorem rcut_calls {w : World} {p : Nat} {T : List Nat} {L : List Fm} (h : Fr TR w p T L) (n : Int) : Calls Try.prog 19 #[Pt p, .int .i64 n] w fun e w' => (∃ r, e = .returned r) ∧ ∃ T', Fr TR w' p T' (cutL n L) ∧ Turn T T' w w' := by
  obtain ⟨N, hN⟩ : ∃ N, N = L.length := ⟨_, rfl⟩
  have HH := Lib.hid (show ∃ T', Fr TR w p T' (L.take N) ∧ Turn T T' w w from ⟨T, by rw [hN, List.take_length]; exact h, Turn.refl _ _⟩)
  have HC := Lib.hid (show cutL n (L.take N) = cutL n L by rw [hN, List.take_length])
  have HN := Lib.hid hN
  clear h hN
  go_enter Try.func19, Try.ntmps19
  go_wp2_with fail
  go_loopg [4] N (fun g z wr => g ≤ N ∧ RowKit.Hid (∃ T', Fr TR wr p T' (L.take g) ∧ Turn T T' w wr) ∧ RowKit.Hid (cutL n (L.take g) = cutL n L))
  case atStart => exact ⟨Nat.le_refl _, HH, HC⟩
  case round =>
    obtain ⟨hgN, hF, hc⟩ := hrel
    obtain ⟨T1, hF1, hT1⟩ := hF.out
    obtain ⟨A, M, cap, hM, hM128, HCT⟩ := hF1.cutTo
    have hMg : M = gk := by rw [hM, List.length_take]; have := HN.out; omega
    clear HH HC
    have p0 := ((HCT M (Nat.le_refl _)).2 wr (Mod.refl _ _)).1
    by_cases hgt : 0 < M ∧ n < (M : Int)
    · have g1 : 0 < M := hgt.1
      have g1I : (0 : Int) < (M : Int) := by omega
      have g2 : n < (M : Int) := hgt.2
      obtain ⟨m, hm⟩ : ∃ m, M = m + 1 := ⟨M - 1, by omega⟩
      have hw1 : IntKind.i64.wrap ((M : Int) - 1) = (m : Int) := by rw [IntKind.wrap_i64]; omega
      have hw2 : IntKind.i64.wrap (m : Int) = (m : Int) := by rw [IntKind.wrap_i64]; omega
      have hn1 : (M : Int) - 1 = (m : Int) := by omega
      have hup := (HCT m (by omega)).1
      obtain ⟨_, fp, T', hF', hT', _⟩ := (HCT m (by omega)).2 wr (Mod.refl _ _)
      have mdd : Mod [] (wr.setCell ⟨p, 0, none⟩ (.slice A m cap)) (wr.setCell ⟨p, 0, none⟩ (.slice A m cap)).drew := (Mod.refl [] _).drew
      have hmg : m + 1 = gk := by omega
      have HR := Lib.hid (show (∃ T', Fr TR (wr.setCell ⟨p, 0, none⟩ (.slice A m cap)).drew p T' (L.take m) ∧ Turn T T' w (wr.setCell ⟨p, 0, none⟩ (.slice A m cap)).drew) ∧ cutL n (L.take m) = cutL n L ∧ m + 1 = gk from by
        refine ⟨⟨T', ?_, (hT1.trans hT').far mdd⟩, ?_, hmg⟩
        · have := hF'.far mdd
          rw [List.take_take, show min m gk = m by omega] at this
          exact this
        · rw [← hc.out, ← hmg, cut_less (by omega)])
      have p1 : wr.drew.cell? ⟨p, 0, none⟩ = some (.slice A M cap) := p0
      clear hF hc hF1 hT1 HCT hM hMg hgt hF' hT' mdd hmg hm hM128
      go_upto_region 1 with fail
      go_region
      all_goals
        clear p0 p1 fp
        go_wp2_with fail
        go_roundg (gk - 1)
        case measure => have := HR.out.2.2; omega
        case rel => have := HR.out.2.2; exact ⟨by omega, by rw [show gk - 1 = m by omega]; exact Lib.hid HR.out.1, by rw [show gk - 1 = m by omega]; exact Lib.hid HR.out.2.1⟩
    · have HF := Lib.hid (show ∃ T', Fr TR wr p T' (cutL n L) ∧ Turn T T' w wr from ⟨T1, by rw [← hc.out, cut_end (by omega)]; exact hF1, hT1⟩)
      by_cases g0 : M = 0
      · subst g0
        clear hF hc hF1 hT1 HCT hM hMg hgt hM128
        go_wp2_with fail
        go_end0
        exact ⟨⟨_, rfl⟩, HF.out⟩
      · have g1 : 0 < M := by omega
        have g1I : (0 : Int) < (M : Int) := by omega
        have g2 : ¬ n < (M : Int) := by omega
        clear hF hc hF1 hT1 HCT hM hMg hgt hM128
        go_wp2_with fail
        go_end0
        exact ⟨⟨_, rfl⟩, HF.out⟩
end Go.Proofs.Ytacmidlhfcnkiaa
