/- Layer 6: new stacks, stacks that are none, rows compared; the document's examples. Condition: rows lie where they are told. -/
import Derived.Laws.IdiomStrings
import Derived.Test.YtifnkmddinoneaaGreatDoorCBAK
set_option maxRecDepth 100000
namespace Go.Proofs.YtifnkmddinoneaaGreatDoor
open Go.RowKit
set_option linter.unusedVariables false

def zeros129 : Array Value := Array.replicate 129 (.int .i64 0)
@[go_sem ↓] theorem zero129 (W : World) : (zeroValue 101).run Tryz.prog W = .ok (.agg zeros129) W := by
  kernel_rfl
def FreshS (w : World) (e : Ending) (w' : World) : Prop := ∃ p, e = .returned (Pt p) ∧ St w' p [] ∧ Mod [] w w' ∧ w.heap.size ≤ p
theorem St.new (w : World) : St (w.alloc (.cells zeros129 101)) w.heap.size [] := by
  have hb : (w.alloc (.cells zeros129 101)).heap[w.heap.size]? = some (.cells zeros129 101) := (MapKept.heap_alloc w _).1
  have hcell : ∀ i, i < 129 → (w.alloc (.cells zeros129 101)).cell? ⟨w.heap.size, i, none⟩ = some (.int .i64 0) := fun i hi => by
    simp only [World.cell?, hb]
    simp [zeros129, hi]
  refine ⟨⟨List.replicate 128 0, ⟨by simp, fun i hi => ?_, ?_, fun i => ?_, by simp, by show w.heap.size < (w.heap.push _).size; simp⟩, rfl⟩, by simp⟩
  · rw [hcell i (by simp at hi; omega), List.getElem_replicate]
  · exact hcell 128 (by omega)
  · simp only [World.frozen?, hb]
    simp
set_option maxRecDepth 10000 in
theorem snew_calls (w : World) : Calls Tryz.prog 47 #[] w (FreshS w) := by
  go_enter Tryz.func47, Tryz.ntmps47
  go_wp2
  go_ret
  exact ⟨_, rfl, St.new w, (Mod.refl [] w).alloc _, Nat.le_refl _⟩
theorem take_nil (n : Int) (w : World) : Calls Tryz.prog 257 #[.pointer none, .int .i64 n] w fun e w' => e = .returned (.tuple #[.slice none 0 0, .int .i64 2]) ∧ w = w' := by
  go_enter Tryz.func257, Tryz.ntmps257
  go_wp2
  go_ret2
  exact ⟨rfl, rfl⟩
theorem pop_nil (w : World) : Calls Tryz.prog 237 #[.pointer none] w fun e w' => e = .returned (.tuple #[.int .i64 0, .int .i64 2]) ∧ w = w' := by
  have hT := Lib.hid (take_nil 1 w)
  go_enter Tryz.func237, Tryz.ntmps237
  go_wp2_with ((with_reducible refine (hT.out).mono ?_); rintro e w' ⟨rfl, rfl⟩)
  go_ret2
  exact ⟨rfl, rfl⟩
def Upto (X Y : List Int) (k : Nat) : Prop := ∀ i, i < k → X[i]? = Y[i]?
def SameR (X Y : List Int) (w : World) (e : Ending) (w' : World) : Prop := e = .returned (.bool (decide (X = Y))) ∧ Mod [] w w'
set_option maxHeartbeats 1000000 in
set_option maxRecDepth 10000 in
theorem same_calls {w : World} {A B : Option Addr} {n m c d : Nat} {X Y : List Int} (hs : Sl w A X) (ht : Sl w B Y) (hn : n = X.length) (hm : m = Y.length) (hb : X.length ≤ 9223372036854775807) (hb2 : Y.length ≤ 9223372036854775807) :
    Calls Tryz.prog 35 #[.slice A n c, .slice B m d] w (SameR X Y w) := by
  by_cases hnm : n = m
  · subst hnm
    have HS := Lib.hid hs
    have HT := Lib.hid ht
    have HN := Lib.hid (And.intro hn hm)
    have hnb : (n : Int) ≤ 9223372036854775807 := by omega
    clear hs ht hn hm hb hb2
    go_enter Tryz.func35, Tryz.ntmps35
    go_wp2_with fail
    go_loopw [5] (fun i wr => ∃ k : Nat, k ≤ n ∧ i = .int .i64 (k : Int) ∧ RowKit.Hid (Upto X Y k) ∧ Mod [] w wr) (fun i _ => n - (intOf i).toNat)
    case atStart => exact ⟨0, by omega, rfl, Lib.hid (fun i hi => absurd hi (by omega)), Mod.refl _ _⟩
    case round =>
      obtain ⟨k, hk, rfl, HU, hM⟩ := hrel
      by_cases hlt : k < n
      · obtain ⟨b, off, hA, hx⟩ := HS.out k (by rw [← HN.out.1]; exact hlt)
        obtain ⟨b2, off2, hB, hy⟩ := HT.out k (by rw [← HN.out.2]; exact hlt)
        have hx1 := hM.cell (by simp) hx
        have hy1 := hM.cell (by simp) hy
        have ex : X[k]? = some (X[k]'(by rw [← HN.out.1]; exact hlt)) := List.getElem?_eq_getElem _
        have ey : Y[k]? = some (Y[k]'(by rw [← HN.out.2]; exact hlt)) := List.getElem?_eq_getElem _
        generalize X[k]'(by rw [← HN.out.1]; exact hlt) = x at hx hx1 ex
        generalize Y[k]'(by rw [← HN.out.2]; exact hlt) = y at hy hy1 ey
        subst hA hB
        have HM := Lib.hid hM
        have EX := Lib.hid (And.intro ex ey)
        have h1 : (0 : Int) ≤ (k : Int) := by omega
        have h2 : (k : Int) < (n : Int) := by omega
        clear hM ex ey hx hy HS HT
        by_cases hxy : x = y
        · subst hxy
          have hne : (x != x) = false := by simp
          go_wp2_with fail
          go_quiet (fail)
          go_wp2
          go_roundw
          case rel =>
            refine ⟨k + 1, by omega, by go_num, Lib.hid (fun i hi => ?_), HM.out.drewN _⟩
            by_cases e : i = k
            · rw [e, EX.out.1, EX.out.2]
            · exact HU.out i (by omega)
          case measure => simp [intOf]; omega
        · have hne : (x != y) = true := by simpa using hxy
          have HXY := Lib.hid hxy
          clear hxy
          go_wp2_with fail
          go_quiet (fail)
          go_wp2
          go_ret
          refine ⟨?_, HM.out.drewN _⟩
          rw [decide_eq_false (fun e => HXY.out (by have h := EX.out; rw [e, h.2] at h; injection h.1 with h; exact h.symm))]
          rfl
      · have hkn : k = n := by omega
        subst hkn
        have HM := Lib.hid hM
        clear hM hk
        go_wp2
        go_ret
        refine ⟨?_, HM.out⟩
        have e : X = Y := by
          apply List.ext_getElem?
          intro i
          by_cases hi : i < k
          · exact HU.out i hi
          · rw [List.getElem?_eq_none (by rw [← HN.out.1]; omega), List.getElem?_eq_none (by rw [← HN.out.2]; omega)]
        rw [decide_eq_true e]
        rfl
  · have h1 : ((n : Int) != (m : Int)) = true := by simp; omega
    have HE := Lib.hid (show X ≠ Y from fun e => hnm (by rw [hn, hm, e]))
    have hnb : (n : Int) ≤ 9223372036854775807 := by omega
    have hmb : (m : Int) ≤ 9223372036854775807 := by omega
    clear hs ht hn hm hnm hb hb2
    go_enter Tryz.func35, Tryz.ntmps35
    go_wp2
    go_ret
    exact ⟨by rw [decide_eq_false HE.out]; rfl, Mod.refl _ _⟩
end Go.Proofs.YtifnkmddinoneaaGreatDoor
