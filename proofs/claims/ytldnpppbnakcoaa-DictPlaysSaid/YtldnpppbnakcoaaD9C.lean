/- Layer 9 (package rhytonref09): the document's In, Find, Names. Condition: the block is such a dictionary (Rd9), names that are looked for have at most 1000000000 bytes. -/
import Derived.Test.YtldnpppbnakcoaaD9B
import Derived.Test.YtldnpppbnakcoaaFold
namespace Go.Proofs.Ytldnpppbnakcoaa
open Go.RowKit
set_option linter.unusedVariables false

def isW (l : Int) (n : List UInt8) (a : We) : Bool := (a.l == l) && (foldL a.n == foldL n)
/-- The word of a list that has this name, the last one. -/
def inW (W : List We) (l : Int) (n : List UInt8) : Option We := W.reverse.find? (isW l n)
def entV (a : We) : Value := .agg #[.string (str a.n), .int .i64 a.x, .bool a.now]
def noneE : We := ⟨[], 0, false, 0⟩
def resE : Option We → Value
  | none => .tuple #[entV noneE, .bool false]
  | some a => .tuple #[entV a, .bool true]
theorem inW_none {W : List We} {l : Int} {n : List UInt8} (h : ∀ a ∈ W, isW l n a = false) : inW W l n = none := by
  unfold inW
  rw [List.find?_eq_none]
  intro a ha
  simp [h a (by simpa using ha)]
theorem inW_at (W : List We) (l : Int) (n : List UInt8) (i : Nat) (hi : i < W.length) (h1 : isW l n W[i] = true) (h2 : ∀ j (hj : j < W.length), i < j → isW l n W[j] = false) : inW W l n = some W[i] := by
  have e : W = W.take i ++ W[i] :: W.drop (i + 1) := by rw [← List.drop_eq_getElem_cons hi, List.take_append_drop]
  unfold inW
  generalize hx : W[i] = x at e h1
  rw [e, List.reverse_append, List.reverse_cons, List.append_assoc, List.find?_append]
  have hn : (W.drop (i + 1)).reverse.find? (isW l n) = none := by
    rw [List.find?_eq_none]
    intro a ha
    have ha : a ∈ W.drop (i + 1) := by simpa using ha
    obtain ⟨j, hj, rfl⟩ := List.getElem_of_mem ha
    rw [List.getElem_drop]
    have hj' : i + 1 + j < W.length := by simp at hj; omega
    simp [h2 (i + 1 + j) hj' (by omega)]
  rw [hn]
  simp [h1]
/-- Three cells in a row, written. -/
theorem set3 {w : World} {b : Nat} {x0 x1 x2 : Value} (c0 : w.cell? ⟨b, 0, none⟩ = some x0) (c1 : w.cell? ⟨b, 1, none⟩ = some x1) (c2 : w.cell? ⟨b, 2, none⟩ = some x2) (y0 y1 y2 : Value) :
    (((w.setCell ⟨b, 0, none⟩ y0).setCell ⟨b, 1, none⟩ y1).setCell ⟨b, 2, none⟩ y2).cell? ⟨b, 0, none⟩ = some y0 ∧ (((w.setCell ⟨b, 0, none⟩ y0).setCell ⟨b, 1, none⟩ y1).setCell ⟨b, 2, none⟩ y2).cell? ⟨b, 1, none⟩ = some y1 ∧ (((w.setCell ⟨b, 0, none⟩ y0).setCell ⟨b, 1, none⟩ y1).setCell ⟨b, 2, none⟩ y2).cell? ⟨b, 2, none⟩ = some y2 := by
  refine ⟨?_, ?_, ?_⟩
  · rw [World.cell?_setCell_other (h := by simp), World.cell?_setCell_other (h := by simp)]
    exact World.cell?_setCell_same _ _ _ (h := c0)
  · rw [World.cell?_setCell_other (h := by simp)]
    refine World.cell?_setCell_same _ _ _ (u := x1) (h := ?_)
    rw [World.cell?_setCell_other (h := by simp)]
    exact c1
  · refine World.cell?_setCell_same _ _ _ (u := x2) (h := ?_)
    rw [World.cell?_setCell_other (h := by simp), World.cell?_setCell_other (h := by simp)]
    exact c2
/-- The three cells of an Entry of the call's own. -/
structure E3 (w : World) (b : Nat) : Prop where
  c0 : ∃ x, w.cell? ⟨b, 0, none⟩ = some x
  c1 : ∃ x, w.cell? ⟨b, 1, none⟩ = some x
  c2 : ∃ x, w.cell? ⟨b, 2, none⟩ = some x
  f : ∀ i, w.frozen? ⟨b, i, none⟩ = false
theorem E3.new (w : World) {w' : World} (m : Mod [] (w.alloc (.cells #[.string ⟨#[]⟩, .int .i64 0, .bool false] 49)) w') : w'.cell? ⟨w.heap.size, 0, none⟩ = some (.string ⟨#[]⟩) ∧ w'.cell? ⟨w.heap.size, 1, none⟩ = some (.int .i64 0) ∧ w'.cell? ⟨w.heap.size, 2, none⟩ = some (.bool false) ∧ ∀ i, w'.frozen? ⟨w.heap.size, i, none⟩ = false := by
  have hb := (MapKept.heap_alloc w (.cells #[.string ⟨#[]⟩, .int .i64 0, .bool false] 49)).1
  have e0 : w'.heap[w.heap.size]? = some (.cells #[.string ⟨#[]⟩, .int .i64 0, .bool false] 49) := by
    rw [m.block w.heap.size (by rw [size_allocD]; omega) (by simp)]; exact hb
  refine ⟨?_, ?_, ?_, fun i => ?_⟩
  · simp only [World.cell?, e0]; rfl
  · simp only [World.cell?, e0]; rfl
  · simp only [World.cell?, e0]; rfl
  · simp only [World.frozen?, e0]; rfl
theorem mod_set3 {w w' : World} (m : Mod [] w w') {b : Nat} (hb : w.heap.size ≤ b) (y0 y1 y2 : Value) : Mod [] w (((w'.setCell ⟨b, 0, none⟩ y0).setCell ⟨b, 1, none⟩ y1).setCell ⟨b, 2, none⟩ y2) :=
  ((m.set (x := ⟨b, 0, none⟩) (Or.inr hb) y0).set (x := ⟨b, 1, none⟩) (Or.inr hb) y1).set (x := ⟨b, 2, none⟩) (Or.inr hb) y2
set_option maxHeartbeats 4000000 in
theorem in9_calls {w : World} {q : Nat} {T : List Nat} {D : Di} (h : Rd9 w q T D) (l : Int) (n : List UInt8) (hn : n.length ≤ 1000000000) :
    Calls Try.prog 33 #[PtD q, .int .i64 l, .string (str n)] w (DTells (resE (inW D.W l n)) w) := by
  obtain ⟨v, u, hv, rfl⟩ := h
  obtain ⟨A, cap, rfl, _⟩ := rowD_open hv.rv
  have HV := Lib.hid hv
  obtain ⟨m, hm⟩ : ∃ m, m = D.W.length := ⟨_, rfl⟩
  have hd := hv.dw
  have h0 := hv.c0
  rw [← hm] at hd h0
  have HM := Lib.hid hm
  have HN := Lib.hid hn
  clear hv hm
  obtain ⟨X, hX⟩ : ∃ X, X = str n := ⟨_, rfl⟩
  rw [← hX]
  have HX := Lib.hid hX
  have hmI : (m : Int) ≤ 2000 := by omega
  clear hX hn
  have mA : Mod [] w (w.alloc (.cells #[.string ⟨#[]⟩, .int .i64 0, .bool false] 49)) := (Mod.refl [] w).alloc _
  have k0 := mA.cell (x := ⟨q, 0, none⟩) (by simp) h0
  have MA := Lib.hid mA
  clear mA h0
  unfold DTells
  go_enter Try.func33, Try.ntmps33
  go_wp2_with fail
  go_loopw [8] (fun z wr => ∃ (k : Nat) (i : Int), z = .int .i64 i ∧ i + 1 = (k : Int) ∧ k ≤ m ∧ RowKit.Hid (Mod [] (w.alloc (.cells #[.string ⟨#[]⟩, .int .i64 0, .bool false] 49)) wr ∧ ∀ j (hj : j < D.W.length), k ≤ j → isW l n D.W[j] = false)) (fun z _ => (intOf z + 1).toNat)
  case atStart => exact ⟨m, _, rfl, by omega, Nat.le_refl _, Lib.hid ⟨Mod.refl _ _, fun j hj hk => by have := HM.out; omega⟩⟩
  case round =>
    obtain ⟨k, i, rfl, hik, hkm, hi⟩ := hrel
    by_cases hk0 : k = 0
    · subst hk0
      obtain rfl : i = -1 := by omega
      have hno : inW D.W l n = none := inW_none fun a ha => by
        obtain ⟨j, hj, rfl⟩ := List.getElem_of_mem ha
        exact hi.out.2 j hj (by omega)
      have HNO := Lib.hid hno
      have MI := Lib.hid hi.out.1
      obtain ⟨c0, c1, c2, cf⟩ := E3.new w hi.out.1
      have f0 := cf 0
      have f1 := cf 1
      have f2 := cf 2
      obtain ⟨r0, r1, r2⟩ := set3 c0 c1 c2 (.string ⟨#[]⟩) (.int .i64 0) (.bool false)
      have R := Lib.hid (And.intro r0 (And.intro r1 r2))
      clear hi hno cf r0 r1 r2 hik hkm k0
      go_wp2_with fail
      obtain ⟨r0, r1, r2⟩ := R.out
      refine bodyPost_ret (v := resE none) ?_ rfl ⟨by rw [HNO.out], mod_set3 (MA.out.trans MI.out) (Nat.le_refl _) _ _ _⟩
      simp [results, Try.results33, go_sem, r0, r1, r2, resE, entV, noneE, str]
    · obtain ⟨j, rfl⟩ : ∃ j, k = j + 1 := ⟨k - 1, by omega⟩
      obtain rfl : i = (j : Int) := by omega
      have hjl : j < D.W.length := by have := HM.out; omega
      have hjm : (j : Int) < (m : Int) := by omega
      have hvr := HV.out.mod (MA.out.trans hi.out.1) (by simp)
      obtain ⟨b, cap', he, hat⟩ := hvr.word j hjl
      injection he with he1 he2 he3
      have hnl := HV.out.names _ (List.getElem_mem hjl)
      obtain ⟨a, haa⟩ : ∃ a, a = D.W[j] := ⟨_, rfl⟩
      rw [← haa] at hat hnl
      have HAA := Lib.hid haa
      have d0 := hat.c0
      have d1 := hat.c1
      have d2 := hat.c2
      have d3 := hat.c3
      have k0 := hvr.c0
      rw [← HM.out] at k0
      have HI := Lib.hid hi.out
      subst he1
      obtain ⟨N, hN⟩ : ∃ N, N = str a.n := ⟨_, rfl⟩
      rw [← hN] at d0
      have HAT := Lib.hid hat
      have HNN := Lib.hid hN
      clear hi hvr hat haa he3 he2
      by_cases hl : a.l = l
      · have K1 := Lib.hid (fun W => rfold_calls a.n (by omega) W)
        have K2 := Lib.hid (fun W => rfold_calls n HN.out W)
        rw [← hN] at K1
        rw [← HX.out] at K2
        rw [hl] at d3
        obtain ⟨FA, hFA⟩ : ∃ FA, FA = str (foldL a.n) := ⟨_, rfl⟩
        obtain ⟨FB, hFB⟩ : ∃ FB, FB = str (foldL n) := ⟨_, rfl⟩
        rw [← hFA] at K1
        rw [← hFB] at K2
        clear hN
        by_cases hf : FA = FB
        · have hw : isW l n D.W[j] = true := by
            rw [← HAA.out]
            unfold isW
            rw [hl]
            have : foldL a.n = foldL n := str_inj (by rw [← hFA, ← hFB, hf])
            simp [this]
          have HE := Lib.hid (show inW D.W l n = some a by rw [HAA.out]; exact inW_at D.W l n j hjl hw fun t ht hk => HI.out.2 t ht (by omega))
          subst hf
          clear hw hl hFA hFB
          go_wp2_with fail
          refine (K1.out _).mono ?_
          rintro e u1 ⟨rfl, m1⟩
          have M1 := Lib.hid m1
          clear m1
          go_wp2_with fail
          refine (K2.out _).mono ?_
          rintro e u2 ⟨rfl, m2⟩
          have M2 := Lib.hid (M1.out.trans m2)
          have g0 := M2.out.cell (x := ⟨q, 0, none⟩) (by simp) k0
          have hat2 := HAT.out.far M2.out
          have g1 := hat2.c0
          have g2 := hat2.c1
          have g3 := hat2.c2
          rw [← HNN.out] at g1
          obtain ⟨c0, c1, c2, cf⟩ := E3.new w (HI.out.1.trans M2.out)
          have f0 := cf 0
          have f1 := cf 1
          have f2 := cf 2
          obtain ⟨r0, r1, r2⟩ := set3 c0 c1 c2 (.string N) (.int .i64 a.x) (.bool a.now)
          have R := Lib.hid (And.intro r0 (And.intro r1 r2))
          obtain ⟨ax, hax⟩ : ∃ ax, ax = a.x := ⟨_, rfl⟩
          obtain ⟨an, han⟩ : ∃ an, an = a.now := ⟨_, rfl⟩
          rw [← hax, ← han] at R
          rw [← hax] at g2
          rw [← han] at g3
          have HX2 := Lib.hid (And.intro hax han)
          clear m2 hat2 cf r0 r1 r2 d0 d1 d2 d3 k0 hax han
          go_wp2_with fail
          obtain ⟨r0, r1, r2⟩ := R.out
          have hv : resE (some a) = .tuple #[.agg #[.string N, .int .i64 ax, .bool an], .bool true] := by rw [HX2.out.1, HX2.out.2, HNN.out]; rfl
          refine bodyPost_ret (v := .tuple #[.agg #[.string N, .int .i64 ax, .bool an], .bool true]) ?_ rfl ⟨by rw [HE.out, hv], mod_set3 ((MA.out.trans HI.out.1).trans M2.out) (Nat.le_refl _) _ _ _⟩
          simp [results, Try.results33, go_sem, r0, r1, r2]
        · have hw : isW l n D.W[j] = false := by
            rw [← HAA.out]
            unfold isW
            have : ¬ foldL a.n = foldL n := fun e => hf (by rw [hFA, hFB, e])
            simp [this]
          have HW := Lib.hid hw
          have hfl : (FA.toList == FB.toList) = false := by
            rw [beq_eq_false_iff_ne]
            exact fun e => hf (by
              rw [ByteArray.toList_eq, ByteArray.toList_eq] at e
              rw [str_back FA, str_back FB, e])
          clear hw hl hFA hFB
          go_wp2_with fail
          refine (K1.out _).mono ?_
          rintro e u1 ⟨rfl, m1⟩
          have M1 := Lib.hid m1
          clear m1
          go_wp2_with fail
          refine (K2.out _).mono ?_
          rintro e u2 ⟨rfl, m2⟩
          have M2 := Lib.hid (M1.out.trans m2)
          clear m2 d0 d1 d2 d3 k0
          go_wp2_with fail
          go_roundw
          case rel => exact ⟨j, (j : Int) - 1, by go_num, by omega, by omega, Lib.hid ⟨HI.out.1.trans M2.out, fun t ht hk => by
            by_cases e : t = j
            · subst e; exact HW.out
            · exact HI.out.2 t ht (by omega)⟩⟩
          case measure => simp [intOf]
      · have hl2 : (a.l == l) = false := by rw [beq_eq_false_iff_ne]; exact hl
        have hw : isW l n D.W[j] = false := by rw [← HAA.out]; unfold isW; rw [hl2]; rfl
        have HW := Lib.hid hw
        clear hw hN
        go_wp2_with fail
        go_roundw
        case rel => exact ⟨j, (j : Int) - 1, by go_num, by omega, by omega, Lib.hid ⟨HI.out.1, fun t ht hk => by
          by_cases e : t = j
          · subst e; exact HW.out
          · exact HI.out.2 t ht (by omega)⟩⟩
        case measure => simp [intOf]
end Go.Proofs.Ytldnpppbnakcoaa
