/- Layer 13: the end of a number as text; the operations that make one; the whole stack told. Condition: cells are cells. -/
import Derived.Test.YtegcecpmdgljpaaGreatDoorUU
namespace Go.Proofs.YtegcecpmdgljpaaGreatDoor
open Go.RowKit
set_option linter.unusedVariables false

section
variable {W : World} {a : Ad} {T : List Nat} {R : List Int} {μ : Mu}
def endAt (μ : Mu) : Nat := μ.B.length - 256 - μ.K.length
def endM (μ : Mu) : Mu := { μ with B := splice μ.B (endAt μ) μ.K }
set_option maxHeartbeats 2000000 in
set_option maxRecDepth 100000 in
theorem end_calls (h : Stt W a T R μ) : Calls Tryz.prog 183 #[Pt a.s] W (Acted a T W ⟨[(endAt μ : Int), (μ.K.length : Int)], 0, R, endM μ⟩) := by
  have c1 := h.c1
  have c3 := h.c3
  have hK := h.lK
  have hlo := h.mm.lo
  have hhi := h.mm.hi
  have hs := str_size μ.K
  have HZ := Lib.hid (size_calls h.mm)
  obtain ⟨o, ho⟩ : ∃ o, o = endAt μ := ⟨_, rfl⟩
  have ho1 : o + μ.K.length + 256 = μ.B.length := by rw [ho]; unfold endAt; omega
  have A1 : Mod [] W (W.alloc (.cells #[.int .i64 (o : Int), .int .i64 (μ.K.length : Int)] 37)).drew := (far_alloc _ _).drew
  have h1 := h.far A1
  have HW := Lib.hid (And.intro (write_ok h1.mm o (str μ.K) (by rw [hs]; omega)) (write_ok (h.far (Mod.refl [] W).drew).mm o (str μ.K) (by rw [hs]; omega)))
  rw [show (str μ.K).data.toList = μ.K from str_list _] at HW
  have HD := Lib.hid (h.far (Mod.refl [] W).drew)
  have hsl := sl_two W (o : Int) (μ.K.length : Int) 37
  have HH := Lib.hid (And.intro h1 (And.intro A1 hsl))
  have ns : a.s ∉ [a.m, a.q] := by simp; exact ⟨h.ne.2.1, h.ne.2.2.1⟩
  have hlt := h.size (x := 0)
  have nW : W.heap.size ∉ [a.m, a.q] := by simp; omega
  obtain ⟨L, hL⟩ : ∃ L, L = μ.B.length := ⟨_, rfl⟩
  obtain ⟨n, hn⟩ : ∃ n, n = μ.K.length := ⟨_, rfl⟩
  obtain ⟨S, hS⟩ : ∃ S, S = str μ.K := ⟨_, rfl⟩
  rw [← hL] at HZ ho1 hlo hhi
  rw [← hS] at c3 hs HW
  rw [← hn] at hs hK ho1 HH A1 hsl HW ⊢
  have HE := Lib.hid (show endM μ = { μ with B := splice μ.B o μ.K } by unfold endM; rw [← ho])
  rw [← ho]
  have w1 : wrap64 ((L : Int) - 256 - (n : Int)) = (o : Int) := by unfold wrap64; omega
  have w2 : (S.size : Int) = (n : Int) := by omega
  have hm : Mod [] W W.drew := (Mod.refl [] W).drew
  have d1 := hm.cell (x := ⟨a.s, 1, none⟩) (by simp) c1
  have d3 := hm.cell (x := ⟨a.s, 3, none⟩) (by simp) c3
  have e1 := A1.cell (x := ⟨a.s, 1, none⟩) (by simp) c1
  have e3 := A1.cell (x := ⟨a.s, 3, none⟩) (by simp) c3
  have hws : wrap64 (o : Int) = (o : Int) := by unfold wrap64; omega
  have hwn : wrap64 (n : Int) = (n : Int) := by unfold wrap64; omega
  have NS := Lib.hid (And.intro ns nW)
  clear h h1 ho hL hn hS hsl hs ho1 hlt hK hm A1 nW
  go_enter Tryz.func183, Tryz.ntmps183
  go_wp2_with (first | ((with_reducible refine (HZ.out).mono ?_); rintro e' w' ⟨rfl, rfl⟩) | fail)
  go_region_held3 (fun V' => V'.cell? ⟨a.s, 1, none⟩ = some (Pt a.m) ∧ V'.cell? ⟨a.s, 3, none⟩ = some (.string S))
    (first | with_reducible exact ⟨d1, d3⟩ | with_reducible exact ⟨e1, e3⟩ | with_reducible exact ⟨x1, x3⟩ | with_reducible exact ⟨(far_alloc _ _).cell (x := ⟨a.s, 1, none⟩) (by simp) x1, (far_alloc _ _).cell (x := ⟨a.s, 3, none⟩) (by simp) x3⟩ | fail)
    (first | ((with_reducible refine (HW.out.1).mono ?_); rintro e' w3 ⟨rfl, hmm, hkk⟩; have hm2 := hkk.mod; have x1 := hm2.cell (x := ⟨a.s, 1, none⟩) NS.out.1 e1; have x3 := hm2.cell (x := ⟨a.s, 3, none⟩) NS.out.1 e3) | ((with_reducible refine (HW.out.2).mono ?_); rintro e' w3 ⟨rfl, hmm, hkk⟩; have hm2' := hkk.mod; have x1 := hm2'.cell (x := ⟨a.s, 1, none⟩) NS.out.1 d1; have x3 := hm2'.cell (x := ⟨a.s, 3, none⟩) NS.out.1 d3) | fail)
  all_goals (go_wp2; go_ret2; rw [HE.out])
  all_goals first
    | (obtain ⟨tn, h2⟩ := HH.out.1.mt hmm hm2
       exact ⟨_, _, _, T, rfl, rfl, (HH.out.2.2.mod (Mod.refl [] _).drew (fun x hx => by simp)).mod hm2 (fun x hx => by injection hx with hx; rw [← hx]; exact NS.out.2), (Tn.far HH.out.2.1).trans tn, h2⟩)
    | (obtain ⟨tn, h2⟩ := HD.out.mt hmm hm2'
       exact ⟨_, _, _, T, rfl, rfl, sl_two _ _ _ _, ((Tn.far (Mod.refl [] W).drew).trans tn).trans (Tn.far (far_alloc _ _)), h2.far (far_alloc _ _)⟩)
end
end Go.Proofs.YtegcecpmdgljpaaGreatDoor
