/- Layer 14: an act on both frames (does), act by act: those that tell no frame. No condition. -/
import Derived.Test.YtacmidlhfcnkiaaHN
namespace Go.Proofs.Ytacmidlhfcnkiaa
open Go.RowKit
set_option linter.unusedVariables false

/-- What an act gives: the two are alike. -/
def Done (w0 w : World) (p q : Nat) (D : List Nat) (e : Ending) (w' : World) : Prop := e = .returned (.bool true) ∧ ∃ L', Fp w0 w' p q L' L' D ∧ Kp D w w'
/-- An act's cells. -/
abbrev cellsY (u : Int) (f : Fm) (s : Value) (n x : Int) : Array Value := #[.int .u8 u, .int .i64 f.k, .int .i64 f.a, .int .i64 f.b, .int .i64 f.x, .int .i64 f.y, s, .int .i64 n, .int .i64 x]
abbrev TA : TypeId := 36
theorem nine_at {w : World} {b : Nat} {v0 v1 v2 v3 v4 v5 v6 v7 v8 : Value} {t : TypeId} (h : w.heap[b]? = some (.cells #[v0, v1, v2, v3, v4, v5, v6, v7, v8] t (0, 0))) :
    w.cell? ⟨b, 0, none⟩ = some v0 ∧ w.cell? ⟨b, 1, none⟩ = some v1 ∧ w.cell? ⟨b, 2, none⟩ = some v2 ∧ w.cell? ⟨b, 3, none⟩ = some v3 ∧ w.cell? ⟨b, 4, none⟩ = some v4 ∧ w.cell? ⟨b, 5, none⟩ = some v5 ∧ w.cell? ⟨b, 6, none⟩ = some v6 ∧ w.cell? ⟨b, 7, none⟩ = some v7 ∧ w.cell? ⟨b, 8, none⟩ = some v8 :=
  ⟨cell_eq h 0, cell_eq h 1, cell_eq h 2, cell_eq h 3, cell_eq h 4, cell_eq h 5, cell_eq h 6, cell_eq h 7, cell_eq h 8⟩
theorem act_in {w0 w : World} {p q : Nat} {L : List Fm} {D : List Nat} (h : Fp w0 w p q L L D) (u : Int) (f : Fm) (s : Value) (n x : Int) :
    Fp w0 (w.alloc (.cells (cellsY u f s n x) TA)) p q L L (w.heap.size :: D) ∧ (w.alloc (.cells (cellsY u f s n x) TA)).heap[w.heap.size]? = some (.cells (cellsY u f s n x) TA (0, 0)) ∧ Kp (w.heap.size :: D) w (w.alloc (.cells (cellsY u f s n x) TA)) := by
  have mA := al_mod w (.cells (cellsY u f s n x) TA)
  have hsz : (w.alloc (.cells (cellsY u f s n x) TA)).heap.size = w.heap.size + 1 := size_allocI w _
  exact ⟨h.add mA (Nat.le_refl _) (by omega), (MapKept.heap_alloc w _).1, Kp.far mA⟩
/-- The end of an act. -/
theorem act_out {w0 w a b c : World} {p q : Nat} {L : List Fm} {D D' : List Nat} {o : Obj} (hF : Fp w0 c p q L L D') (hD : ∀ x ∈ D, x ∈ D') (k1 : Kp D' w a) (e1 : a.heap[w.heap.size]? = some o) (k2 : Kp D' a b) (e2 : b.heap[w.heap.size]? = some o) (k3 : Kp D' b c) : ∃ L', Fp w0 c p q L' L' D ∧ Kp D w c := by
  have h1 := (Array.getElem?_eq_some_iff.1 e1).1
  have h2 := (Array.getElem?_eq_some_iff.1 e2).1
  exact ⟨L, hF.less hD, ((k1.trans k2 (by omega)).trans k3 (by omega)).less hD⟩
set_option maxRecDepth 100000 in
set_option maxHeartbeats 8000000 in
theorem does_cut {w0 w : World} {p q : Nat} {L : List Fm} {D : List Nat} (h : Fp w0 w p q L L D) (u : Int) (hu : Int.tmod u 9 = 3) (f : Fm) (s : Value) (n x : Int) : Calls Try.prog 13 #[Pt p, Pt q, .agg (cellsY u f s n x)] w (Done w0 w p q D) := by
  obtain ⟨hF, bA, K0⟩ := act_in h u f s n x
  obtain ⟨c0, c1, c2, c3, c4, c5, c6, c7, c8⟩ := nine_at bA
  have H1 := Lib.hid (hF.cut n)
  have HP := fun (W : World) (L2 : List Fm) (hW : Fp w0 W p q L2 L (w.heap.size :: D)) => hW.rcut n
  have HPP := Lib.hid HP
  have HF := Lib.hid (And.intro bA K0)
  clear h hF bA K0 HP 
  go_enter Try.func13, Try.ntmps13
  go_wp2_with fail
  refine (H1.out).mono ?_
  rintro e w3 ⟨⟨r0, rfl⟩, hF3, hK3⟩
  have b3 := box_kept HF.out.1 hK3 (by simp)
  obtain ⟨d0, d1, d2, d3, d4, d5, d6, d7, d8⟩ := nine_at b3
  have H2 := Lib.hid (HPP.out w3 _ hF3)
  have HE := Lib.hid (And.intro hF3 (And.intro hK3 b3))
  clear hF3 hK3 b3 c0 c1 c2 c3 c4 c5 c6 c7 c8 H1
  go_wp2_with fail
  refine (H2.out).mono ?_
  rintro e w4 ⟨⟨r1, rfl⟩, hF4, hK4⟩
  have HY := Lib.hid (And.intro hF4 hK4)
  clear hF4 hK4
  clear H2
  go_wp2_with fail
  go_ret
  exact ⟨rfl, act_out HY.out.1 (fun x hx => List.mem_cons_of_mem _ hx) HF.out.2 HF.out.1 HE.out.2.1 HE.out.2.2 HY.out.2⟩
set_option maxRecDepth 100000 in
set_option maxHeartbeats 8000000 in
theorem does_index {w0 w : World} {p q : Nat} {L : List Fm} {D : List Nat} (h : Fp w0 w p q L L D) (u : Int) (hu : Int.tmod u 9 = 4) (f : Fm) (s : Value) (n x : Int) : Calls Try.prog 13 #[Pt p, Pt q, .agg (cellsY u f s n x)] w (Done w0 w p q D) := by
  obtain ⟨hF, bA, K0⟩ := act_in h u f s n x
  obtain ⟨c0, c1, c2, c3, c4, c5, c6, c7, c8⟩ := nine_at bA
  have H1 := Lib.hid (hF.index n)
  have HP := fun (W : World) (hW : Fp w0 W p q L L (w.heap.size :: D)) => hW.rindex n
  obtain ⟨va, hva⟩ : ∃ va, va = (indexL n L).getD 0 := ⟨_, rfl⟩
  simp only [← hva] at H1 HP
  obtain ⟨vb, hvb⟩ : ∃ vb, vb = orE (-26) (indexL n L) := ⟨_, rfl⟩
  simp only [← hvb] at H1 HP
  have HPP := Lib.hid HP
  have HF := Lib.hid (And.intro bA K0)
  clear h hF bA K0 HP hva hvb
  go_enter Try.func13, Try.ntmps13
  go_wp2_with fail
  refine (H1.out).mono ?_
  rintro e w3 ⟨rfl, hF3, hK3⟩
  have b3 := box_kept HF.out.1 hK3 (by simp)
  obtain ⟨d0, d1, d2, d3, d4, d5, d6, d7, d8⟩ := nine_at b3
  have H2 := Lib.hid (HPP.out w3 hF3)
  have HE := Lib.hid (And.intro hF3 (And.intro hK3 b3))
  clear hF3 hK3 b3 c0 c1 c2 c3 c4 c5 c6 c7 c8 H1
  go_wp2_with fail
  refine (H2.out).mono ?_
  rintro e w4 ⟨rfl, rfl⟩
  have HY := Lib.hid (And.intro HE.out.1 (Kp.far (D := w.heap.size :: D) (Mod.refl [] w3)))
  clear H2
  go_wp2_with fail
  go_ret
  exact ⟨rfl, act_out HY.out.1 (fun x hx => List.mem_cons_of_mem _ hx) HF.out.2 HF.out.1 HE.out.2.1 HE.out.2.2 HY.out.2⟩
set_option maxRecDepth 100000 in
set_option maxHeartbeats 8000000 in
theorem does_step {w0 w : World} {p q : Nat} {L : List Fm} {D : List Nat} (h : Fp w0 w p q L L D) (u : Int) (hu : Int.tmod u 9 = 5) (f : Fm) (s : Value) (n x : Int) : Calls Try.prog 13 #[Pt p, Pt q, .agg (cellsY u f s n x)] w (Done w0 w p q D) := by
  obtain ⟨hF, bA, K0⟩ := act_in h u f s n x
  obtain ⟨c0, c1, c2, c3, c4, c5, c6, c7, c8⟩ := nine_at bA
  have H1 := Lib.hid (hF.step x)
  have HP := fun (W : World) (L2 : List Fm) (hW : Fp w0 W p q L2 L (w.heap.size :: D)) => hW.rstep x
  obtain ⟨va, hva⟩ : ∃ va, va = stepEnd x L := ⟨_, rfl⟩
  simp only [← hva] at H1 HP
  obtain ⟨vb, hvb⟩ : ∃ vb, vb = errK 3 (-26) L := ⟨_, rfl⟩
  simp only [← hvb] at H1 HP
  have HPP := Lib.hid HP
  have HF := Lib.hid (And.intro bA K0)
  clear h hF bA K0 HP hva hvb
  go_enter Try.func13, Try.ntmps13
  go_wp2_with fail
  refine (H1.out).mono ?_
  rintro e w3 ⟨rfl, hF3, hK3⟩
  have b3 := box_kept HF.out.1 hK3 (by simp)
  obtain ⟨d0, d1, d2, d3, d4, d5, d6, d7, d8⟩ := nine_at b3
  have H2 := Lib.hid (HPP.out w3 _ hF3)
  have HE := Lib.hid (And.intro hF3 (And.intro hK3 b3))
  clear hF3 hK3 b3 c0 c1 c2 c3 c4 c5 c6 c7 c8 H1
  go_wp2_with fail
  refine (H2.out).mono ?_
  rintro e w4 ⟨rfl, hF4, hK4⟩
  have HY := Lib.hid (And.intro hF4 hK4)
  clear hF4 hK4
  clear H2
  go_wp2_with fail
  go_ret
  exact ⟨rfl, act_out HY.out.1 (fun x hx => List.mem_cons_of_mem _ hx) HF.out.2 HF.out.1 HE.out.2.1 HE.out.2.2 HY.out.2⟩
set_option maxRecDepth 100000 in
set_option maxHeartbeats 8000000 in
theorem does_get {w0 w : World} {p q : Nat} {L : List Fm} {D : List Nat} (h : Fp w0 w p q L L D) (u : Int) (hu : Int.tmod u 9 = 6) (f : Fm) (s : Value) (n x : Int) : Calls Try.prog 13 #[Pt p, Pt q, .agg (cellsY u f s n x)] w (Done w0 w p q D) := by
  obtain ⟨hF, bA, K0⟩ := act_in h u f s n x
  obtain ⟨c0, c1, c2, c3, c4, c5, c6, c7, c8⟩ := nine_at bA
  have H1 := Lib.hid (hF.get n)
  have HP := fun (W : World) (hW : Fp w0 W p q L L (w.heap.size :: D)) => hW.rget n
  obtain ⟨va, hva⟩ : ∃ va, va = (localL n L).getD 0 := ⟨_, rfl⟩
  simp only [← hva] at H1 HP
  obtain ⟨vb, hvb⟩ : ∃ vb, vb = orE (-6) (localL n L) := ⟨_, rfl⟩
  simp only [← hvb] at H1 HP
  have HPP := Lib.hid HP
  have HF := Lib.hid (And.intro bA K0)
  clear h hF bA K0 HP hva hvb
  go_enter Try.func13, Try.ntmps13
  go_wp2_with fail
  refine (H1.out).mono ?_
  rintro e w3 ⟨rfl, hF3, hK3⟩
  have b3 := box_kept HF.out.1 hK3 (by simp)
  obtain ⟨d0, d1, d2, d3, d4, d5, d6, d7, d8⟩ := nine_at b3
  have H2 := Lib.hid (HPP.out w3 hF3)
  have HE := Lib.hid (And.intro hF3 (And.intro hK3 b3))
  clear hF3 hK3 b3 c0 c1 c2 c3 c4 c5 c6 c7 c8 H1
  go_wp2_with fail
  refine (H2.out).mono ?_
  rintro e w4 ⟨rfl, rfl⟩
  have HY := Lib.hid (And.intro HE.out.1 (Kp.far (D := w.heap.size :: D) (Mod.refl [] w3)))
  clear H2
  go_wp2_with fail
  go_ret
  exact ⟨rfl, act_out HY.out.1 (fun x hx => List.mem_cons_of_mem _ hx) HF.out.2 HF.out.1 HE.out.2.1 HE.out.2.2 HY.out.2⟩
end Go.Proofs.Ytacmidlhfcnkiaa
