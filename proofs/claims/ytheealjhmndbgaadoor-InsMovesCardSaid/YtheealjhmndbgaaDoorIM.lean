/- Layer 10: the program's May. Condition: the table reads as the program's text lays it; there are at most 1000000 instructions. -/
import Derived.Test.YtheealjhmndbgaaDoorIL
import Derived.Test.YtheealjhmndbgaaDoorIF
namespace Go.Proofs.YtheealjhmndbgaaDoor
open Go.RowKit
set_option linter.unusedVariables false

/-- A definition may be. -/
def MayP (L : List Xi) (words : Int) : Prop := L.length ≤ 500 ∧ ∃ o x v, Lab L o ∧ L[L.length - 1]? = some x ∧ o[L.length - 1]? = some v ∧ endX x v = true ∧ FitAll L words
theorem MayP.of {L : List Xi} {words : Int} {o : List Int} {x : Xi} {v : Int} (hl : L.length ≤ 500) (h : Lab L o) (hx : L[L.length - 1]? = some x) (hv : o[L.length - 1]? = some v) : MayP L words ↔ endX x v = true ∧ FitAll L words := by
  refine ⟨fun ⟨_, o', x', v', h1, h2, h3, h4, h5⟩ => ?_, fun ⟨h1, h2⟩ => ⟨hl, o, x, v, h, hx, hv, h1, h2⟩⟩
  obtain rfl := h.same h1
  rw [hx] at h2
  rw [hv] at h3
  injection h2 with h2
  injection h3 with h3
  subst h2 h3
  exact ⟨h4, h5⟩
theorem MayP.bad {L : List Xi} {words : Int} (h : Bad L) : ¬ MayP L words := fun ⟨_, o, _, _, h1, _⟩ => h1.good h
/-- f answers whether a definition may be. -/
def TellsM (L : List Xi) (words : Int) (w : World) (e : Ending) (w' : World) : Prop := ∃ r : Bool, e = .returned (.bool r) ∧ (r = true ↔ MayP L words) ∧ Mod [] w w'
theorem last_there {L : List Xi} {o : List Int} (h : Lab L o) : ∃ x v, L[L.length - 1]? = some x ∧ o[L.length - 1]? = some v :=
  ⟨_, _, List.getElem?_eq_getElem (by have := h.pos; omega), List.getElem?_eq_getElem (by have := h.pos; rw [h.len]; omega)⟩
set_option maxHeartbeats 4000000 in
set_option maxRecDepth 100000 in
theorem may_calls {w : World} (g : Good w) {A : Option Addr} {n cap : Nat} {L : List Xi} (hL : InsAt w A L) (hn : n = L.length) (hb : n ≤ 1000000) (words : Int) :
    Calls Tryd.prog 13 #[defV A n cap, .int .i64 words] w (TellsM L words w) := by
  have hM := Mod.refl [] w
  have hMw := hM.alloc (.cells #[.slice A n cap] 24)
  have hd : (w.alloc (.cells #[.slice A n cap] 24)).cell? ⟨w.heap.size, 0, none⟩ = some (.slice A n cap) := by rw [World.cell?_alloc_new]; rfl
  have HD := Lib.hid hd
  have HMw := Lib.hid hMw
  by_cases h500 : 500 < n
  · have h5 : decide ((500 : Int) < (n : Int)) = true := decide_eq_true (by omega)
    have h5b : decide (500 < n) = true := decide_eq_true h500
    have hno : RowKit.Hid (¬ MayP L words) := Lib.hid fun ⟨h, _⟩ => by omega
    clear hL hn hb hM hMw hd h500
    go_enter Tryd.func13, Tryd.ntmps13
    go_wp2_with fail
    go_ret
    exact ⟨false, rfl, ⟨fun h => (by cases h), fun h => absurd h hno.out⟩, HMw.out⟩
  · have h5 : decide ((500 : Int) < (n : Int)) = false := decide_eq_false (by omega)
    have h5b : decide (500 < n) = false := decide_eq_false h500
    have H1 := Lib.hid (loops_calls (cap := cap) (hL.far hMw) hn hb)
    have HN := Lib.hid (And.intro hn (And.intro hL (show L.length ≤ 500 by omega)))
    have HG := Lib.hid g
    clear hL hn hM hMw hd h500 g
    go_enter Tryd.func13, Tryd.ntmps13
    go_wp2_with fail
    refine (H1.out).mono ?_
    rintro e w1 (⟨b, o, rfl, hlab, hiv, hm, hnb⟩ | ⟨rfl, hbad, hm⟩)
    · have hol : o.length = n := by rw [hlab.len, HN.out.1]
      rw [hol]
      obtain ⟨x, v, hx, hv⟩ := last_there hlab
      have h0 : 0 < n := by rw [HN.out.1]; exact hlab.pos
      have HM1 := Lib.hid (HMw.out.trans hm)
      have HP := Lib.hid (MayP.of (words := words) HN.out.2.2 hlab hx hv)
      rw [← HN.out.1] at hx hv
      have H2 := Lib.hid (ended_calls (cap := cap) (HN.out.2.1.far HM1.out) HN.out.1 h0 hb hiv hx hv hol)
      have H3 := Lib.hid (fun (W : World) (m : Mod [] w W) => fit_calls (cap := cap) (HG.out.far m) (HN.out.2.1.far m) HN.out.1 h0 hb words)
      obtain ⟨r, hr⟩ : ∃ r, r = endX x v := ⟨_, rfl⟩
      rw [← hr] at H2 HP
      have hd1 := hm.cell (by simp) HD.out
      clear hlab hiv hm hnb hol hx hv hr H1
      cases r with
      | false =>
        go_wp2_with fail
        refine (H2.out).mono ?_
        rintro e w2 ⟨rfl, hm2⟩
        have HM2 := Lib.hid hm2
        clear hm2
        go_wp2_with fail
        go_ret
        exact ⟨false, rfl, ⟨fun h => (by cases h), fun h => (by cases (HP.out.1 h).1)⟩, HM1.out.trans HM2.out⟩
      | true =>
        go_wp2_with fail
        refine (H2.out).mono ?_
        rintro e w2 ⟨rfl, hm2⟩
        have hd2 := hm2.cell (by simp) hd1
        have HM2 := Lib.hid hm2
        clear hm2
        go_wp2_with fail
        refine (H3.out _ (HM1.out.trans HM2.out)).mono ?_
        rintro e w3 ⟨r3, rfl, hr3, hm3⟩
        have HM3 := Lib.hid hm3
        have HR3 := Lib.hid hr3
        clear hm3 hr3
        go_wp2_with fail
        go_ret
        exact ⟨r3, by simp, ⟨fun h => HP.out.2 ⟨by simp, HR3.out.1 h⟩, fun h => HR3.out.2 (HP.out.1 h).2⟩, (HM1.out.trans HM2.out).trans HM3.out⟩
    · have hno : RowKit.Hid (¬ MayP L words) := Lib.hid (MayP.bad hbad)
      have HM1 := Lib.hid (HMw.out.trans hm)
      clear hbad hm H1
      go_wp2_with fail
      go_ret
      exact ⟨false, rfl, ⟨fun h => (by cases h), fun h => absurd h hno.out⟩, HM1.out⟩
end Go.Proofs.YtheealjhmndbgaaDoor
