/- Layer 14: One, of a frame and of one alike. Condition: the locals lie where the slices tell, 1000000 at most. -/
import Derived.Test.YtacmidlhfcnkiaaGO
namespace Go.Proofs.Ytacmidlhfcnkiaa
open Go.RowKit
set_option linter.unusedVariables false

theorem two_alloc (w : World) (o0 o1 : Obj) : ((w.alloc o0).alloc o1).heap[w.heap.size]? = some o0 ∧ ((w.alloc o0).alloc o1).heap[w.heap.size + 1]? = some o1 := by
  have a0 := (MapKept.heap_alloc w o0).1
  have a1 := (MapKept.heap_alloc (w.alloc o0) o1).1
  rw [size_allocI] at a1
  exact ⟨((al_mod (w.alloc o0) o1).block _ (by rw [size_allocI]; omega) (by simp)).trans a0, a1⟩
set_option maxHeartbeats 4000000 in
theorem one_calls {w : World} {q : Fm} {s u : Value} (hs : Ls w s q.l) (hu : Ls w u q.l) (hb : q.l.length ≤ 1000000) :
    Calls Try.prog 17 #[frV q s, frV q u] w fun e w' => e = .returned (.bool true) ∧ Mod [] w w' := by
  obtain ⟨k, a, b, x, y, l⟩ := q
  dsimp only at hs hu hb
  have mm := (al_mod w (.cells (cellsF ⟨k, a, b, x, y, l⟩ s) TF)).trans (al_mod _ (.cells (cellsF ⟨k, a, b, x, y, l⟩ u) TF))
  obtain ⟨b0, b1⟩ := two_alloc w (.cells (cellsF ⟨k, a, b, x, y, l⟩ s) TF) (.cells (cellsF ⟨k, a, b, x, y, l⟩ u) TF)
  have hs2 := hs.far mm
  have hu2 := hu.far mm
  dsimp only [cellsF] at mm b0 b1 hs2 hu2
  obtain ⟨A, c1, rfl, _, _, _, hS⟩ := hs2
  obtain ⟨B, c2, rfl, _, _, _, hU⟩ := hu2
  obtain ⟨n, hn⟩ : ∃ n, n = l.length := ⟨_, rfl⟩
  rw [← hn] at mm b0 b1 hS hU hb ⊢
  obtain ⟨c0, d1, d2, d3, d4, d5, _⟩ := six_at b0
  obtain ⟨e0, e1, e2, e3, e4, e5, _⟩ := six_at b1
  have HS := Lib.hid hS
  have HU := Lib.hid hU
  have HM := Lib.hid mm
  have HN := Lib.hid hn
  have hnI : (n : Int) ≤ 1000000 := by omega
  unfold frV
  clear hs hu hb mm b0 b1 hS hU hn
  go_enter Try.func17, Try.ntmps17
  go_upto_region 1 with fail
  generalize (w.alloc (.cells #[.int .i64 k, .int .i64 a, .int .i64 b, .int .i64 x, .int .i64 y, .slice A n c1] TF)).alloc (.cells #[.int .i64 k, .int .i64 a, .int .i64 b, .int .i64 x, .int .i64 y, .slice B n c2] TF) = W at HS HU HM c0 d1 d2 d3 d4 d5 e0 e1 e2 e3 e4 e5 ⊢
  go_wp2_with fail
  go_loopw [5] (fun z wr => ∃ (j m : Nat), z = .int .i64 (j : Int) ∧ j ≤ n ∧ wr = W.drewN m) (fun z _ => n - (intOf z).toNat)
  case atStart => exact ⟨0, 0, rfl, by omega, rfl⟩
  case round =>
    obtain ⟨j, m, rfl, hj, rfl⟩ := hrel
    by_cases hlt : j < n
    · have hjI : (j : Int) < (n : Int) := by omega
      have hj0 : (0 : Int) ≤ (j : Int) := by omega
      have hjl : j < l.length := by rw [← HN.out]; exact hlt
      obtain ⟨g1, o1, rfl, hc1⟩ := HS.out j hjl
      obtain ⟨g2, o2, rfl, hc2⟩ := HU.out j hjl
      obtain ⟨v, hv⟩ : ∃ v, v = l[j] := ⟨_, rfl⟩
      rw [← hv] at hc1 hc2
      clear hv
      have md := (Mod.refl [] W).drewN m
      have k5 := md.cell (by simp) d5
      have l5 := md.cell (by simp) e5
      have kc1 := md.cell (by simp) hc1
      have kc2 := md.cell (by simp) hc2
      go_wp2_with fail
      go_quiet (fail)
      go_wp2_with fail
      go_roundw
      case rel => exact ⟨j + 1, _, by go_num, by omega, rfl⟩
      case measure => simp [intOf]; omega
    · have hjI : ¬ (j : Int) < (n : Int) := by omega
      have md := (Mod.refl [] W).drewN m
      have k5 := md.cell (by simp) d5
      go_wp2_with fail
      go_ret
      exact ⟨rfl, HM.out.drewN _⟩
end Go.Proofs.Ytacmidlhfcnkiaa
