/- Layer 8 (package source): what is told of an input, and what is read of its last source. Condition: the block is an input (Inp). -/
import Derived.Test.YtmbcjphgjdffmaaS8C
namespace Go.Proofs.Ytmbcjphgjdffmaa
open Go.RowKit
set_option linter.unusedVariables false

/-- v is an input without sources, or none at all. -/
def Nothing (v : Value) (w : World) : Prop := ∀ W, Mod [] w W → Calls Try.prog 16 #[v] W fun e w' => e = .returned (.int .i64 0) ∧ W = w'
theorem Nothing.nil (w : World) : Nothing (.pointer none) w := fun W _ => depth_none W
theorem Nothing.of {w : World} {p : Nat} {S : List Nat} {M : Nat} (h : Inp w p S [] M) : Nothing (Pt p) w := fun W m => by simpa using depth_calls (h.far m)
theorem Bare.rd {w : World} {b : Nat} (h : Bare w b) : Rd w b 0 [] 0 := ⟨h.c0, h.c1, h.f 1⟩
/-- f at p (and more) answers v; p is then an input of the sources L, of M that were opened; of what was there its blocks S alone have turned. -/
def Plays (p : Nat) (S : List Nat) (v : Value) (L : List Sc) (M : Nat) (w : World) (e : Ending) (w' : World) : Prop := e = .returned v ∧ ∃ S', Inp w' p S' L M ∧ Turn S S' w w'
/-- f answers v; nothing of what was there has turned. -/
def Tells (v : Value) (w : World) (e : Ending) (w' : World) : Prop := e = .returned v ∧ Mod [] w w'

theorem wordL_nil : wordL [] 0 = ([], 0) := by decide
theorem word_bare {v : Value} {w : World} (h : Nothing v w) : Calls Try.prog 10 #[v] w (Tells (.string (str [])) w) := by
  have H := Lib.hid (last_bare v w (h w (Mod.refl [] w)))
  clear h
  unfold Tells
  go_enter Try.func10, Try.ntmps10
  go_wp2_with fail
  refine (H.out).mono ?_
  rintro e w1 ⟨rfl, hb, hm⟩
  have K := Lib.hid (rd_word hb.rd (by simp))
  have HM := Lib.hid hm
  clear hb hm
  go_wp2_with fail
  refine (K.out).mono ?_
  rintro e w2 ⟨rfl, w3, hm3, rfl⟩
  have HM3 := Lib.hid (((HM.out.trans hm3).set (x := ⟨w.heap.size, 0 + 1, none⟩) (Or.inr (Nat.le_refl _)) (.int .i64 (((wordL [] ((0 : Nat) : Int)).2 : Nat) : Int))))
  clear hm3
  go_wp2_with fail
  go_ret
  exact ⟨rfl, HM3.out⟩
theorem text_bare {v : Value} {w : World} (h : Nothing v w) : Calls Try.prog 15 #[v] w (Tells (.string (str [])) w) := by
  have H := Lib.hid (last_bare v w (h w (Mod.refl [] w)))
  clear h
  unfold Tells
  go_enter Try.func15, Try.ntmps15
  go_wp2_with fail
  refine (H.out).mono ?_
  rintro e w1 ⟨rfl, hb, hm⟩
  have h0 := hb.c0
  have HM := Lib.hid hm
  clear hb hm
  go_wp2_with fail
  go_ret
  exact ⟨rfl, HM.out⟩
theorem in_bare {v : Value} {w : World} (h : Nothing v w) : Calls Try.prog 12 #[v] w (Tells (.int .i64 0) w) := by
  have H := Lib.hid (last_bare v w (h w (Mod.refl [] w)))
  clear h
  unfold Tells
  go_enter Try.func12, Try.ntmps12
  go_wp2_with fail
  refine (H.out).mono ?_
  rintro e w1 ⟨rfl, hb, hm⟩
  have h0 := hb.c1
  have HM := Lib.hid hm
  clear hb hm
  go_wp2_with fail
  go_ret
  exact ⟨rfl, HM.out⟩
theorem save_bare {v : Value} {w : World} (h : Nothing v w) : Calls Try.prog 11 #[v] w (Tells (.tuple #[.int .i64 0, .int .i64 0]) w) := by
  have H := Lib.hid (last_bare v w (h w (Mod.refl [] w)))
  clear h
  unfold Tells
  go_enter Try.func11, Try.ntmps11
  go_wp2_with fail
  refine (H.out).mono ?_
  rintro e w1 ⟨rfl, hb, hm⟩
  have h1 := hb.c1
  have h2 := hb.c2
  have HM := Lib.hid hm
  clear hb hm
  go_upto_region 2 with fail
  go_quiet (fail)
  go_wp2_with fail
  go_ret2
  exact ⟨rfl, HM.out.drewN _⟩
theorem seek_bare {v : Value} {w : World} (h : Nothing v w) (n : Int) (hn : I64 n) : Calls Try.prog 18 #[v, .int .i64 n] w (Tells (.tuple #[]) w) := by
  have H := Lib.hid (last_bare v w (h w (Mod.refl [] w)))
  clear h
  unfold Tells
  go_enter Try.func18, Try.ntmps18
  go_wp2_with fail
  refine (H.out).mono ?_
  rintro e w1 ⟨rfl, hb, hm⟩
  have K := Lib.hid (rd_seek hb.rd n (by simp) hn)
  have HM := Lib.hid hm
  clear hb hm
  go_wp2_with fail
  refine (K.out).mono ?_
  rintro e w2 ⟨rfl, rfl⟩
  go_wp2_with fail
  exact bodyPost_end (v := .tuple #[]) (results_none rfl _ _ _) rfl ⟨rfl, HM.out.set (x := ⟨w.heap.size, 0 + 1, none⟩) (Or.inr (Nat.le_refl _)) _⟩
theorem restore_bare {v : Value} {w : World} (h : Nothing v w) (x y : Int) : Calls Try.prog 13 #[v, .int .i64 x, .int .i64 y] w (Tells (.bool false) w) := by
  have H := Lib.hid (last_bare v w (h w (Mod.refl [] w)))
  have HN := Lib.hid h
  clear h
  unfold Tells
  go_enter Try.func13, Try.ntmps13
  go_wp2_with fail
  refine (H.out).mono ?_
  rintro e w1 ⟨rfl, hb, hm⟩
  have h2 := hb.c2
  have K := Lib.hid (HN.out w1 hm)
  have HM := Lib.hid hm
  clear hb hm
  go_wp2_with fail
  refine (K.out).mono ?_
  rintro e w2 ⟨rfl, rfl⟩
  go_wp2_with fail
  go_ret
  exact ⟨rfl, HM.out⟩
end Go.Proofs.Ytmbcjphgjdffmaa
