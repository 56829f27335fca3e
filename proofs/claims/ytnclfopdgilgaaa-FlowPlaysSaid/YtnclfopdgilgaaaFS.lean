/- Layer 11: builders of a law's own; the document's example (shown). No condition. -/
import Derived.Test.YtnclfopdgilgaaaFR
import Derived.Test.YtnclfopdgilgaaaIR
import Derived.Test.YtnclfopdgilgaaaIT
namespace Go.Proofs.Ytnclfopdgilgaaa
open Go.RowKit
set_option linter.unusedVariables false

/-- Block p of w is a builder, made since w0; nothing older turned. -/
def Mb (w0 w : World) (p : Nat) (B : Bd) : Prop := ∃ S, Bl w p S B ∧ OkB B ∧ Mod [] w0 w ∧ ∀ x ∈ S, w0.heap.size ≤ x
variable {w0 w : World} {p : Nat} {B : Bd}
theorem Mb.m (h : Mb w0 w p B) : Mod [] w0 w := by obtain ⟨S, _, _, m, _⟩ := h; exact m
theorem Mb.far {w' : World} (h : Mb w0 w p B) (m : Mod [] w w') : Mb w0 w' p B := by
  obtain ⟨S, h1, h2, h3, h4⟩ := h
  exact ⟨S, h1.far m, h2, h3.trans m, h4⟩
theorem Turn.since {w w' w0 : World} {S S' : List Nat} (t : Turn S S' w w') (m : Mod [] w0 w) (hS : ∀ x ∈ S, w0.heap.size ≤ x) : Mod [] w0 w' ∧ ∀ x ∈ S', w0.heap.size ≤ x :=
  ⟨m.then t.1 fun x hx => Or.inr (hS x hx), fun x hx => (t.2 x hx).elim (hS x) fun h => Nat.le_trans m.size h⟩
theorem mb_new {w0 w : World} (m : Mod [] w0 w) : Calls Try.prog 11 #[] w fun e w' => ∃ p, e = .returned (Pt p) ∧ Mb w0 w' p ⟨[], []⟩ := by
  refine (new_calls w).mono ?_
  rintro e w' ⟨p, rfl, h1, h2, h3⟩
  exact ⟨p, rfl, [p], h1, ok_new, m.trans h2, fun x hx => by rw [List.mem_singleton.1 hx]; exact Nat.le_trans m.size h3⟩
theorem mb_do (h : Mb w0 w p B) (n : Int) : Calls Try.prog 15 #[Pt p, .int .i64 n] w fun e w' => e = .returned (.int .i64 (doB n B).1) ∧ Mb w0 w' p (doB n B).2 := by
  obtain ⟨S, h1, h2, h3, h4⟩ := h
  refine (do_calls h1 h2 n).mono ?_
  rintro e w' ⟨rfl, S', h5, h6⟩
  exact ⟨rfl, S', h5, h2.does n, h6.since h3 h4⟩
theorem mb_put (h : Mb w0 w p B) (x : Xi) (hx : WellX x) : Calls Try.prog 13 #[Pt p, insV x] w fun e w' => e = .returned (.int .i64 (putB x B).1) ∧ Mb w0 w' p (putB x B).2 := by
  obtain ⟨S, h1, h2, h3, h4⟩ := h
  refine (put_calls h1 h2 x).mono ?_
  rintro e w' ⟨rfl, S', h5, h6⟩
  exact ⟨rfl, S', h5, h2.puts hx, h6.since h3 h4⟩
theorem mb_len (h : Mb w0 w p B) (z : Int) (hz : (B.L.length : Int) = z) : Calls Try.prog 17 #[Pt p] w fun e w' => e = .returned (.int .i64 z) ∧ w = w' := by
  obtain ⟨S, h1, _⟩ := h
  subst hz
  exact len_calls h1 _ rfl
theorem mb_open (h : Mb w0 w p B) (z : Int) (hz : (B.P.length : Int) = z) : Calls Try.prog 18 #[Pt p] w fun e w' => e = .returned (.int .i64 z) ∧ w = w' := by
  obtain ⟨S, h1, _⟩ := h
  subst hz
  exact open_calls h1 _ rfl
theorem mb_stay (h : Mb w0 w p B) (hP : 0 < B.P.length) : Calls Try.prog 19 #[Pt p] w fun e w' => e = .returned (.tuple #[defV none 0 0, .int .i64 (-22)]) ∧ Mb w0 w' p B := by
  obtain ⟨S, h1, h2, h3, h4⟩ := h
  refine (end_open h1 h2 hP).mono ?_
  rintro e w' ⟨rfl, hm⟩
  exact ⟨rfl, S, h1.far hm, h2, h3.trans hm, h4⟩
/-- What End gives: the instructions K, in a row that nothing of the builder's touches. -/
structure Me (w0 w : World) (p : Nat) (A : Option Addr) (cap : Nat) (K : List Xi) : Prop where
  ins : InsAt w A K
  mb : ∃ S, Bl w p S ⟨[], []⟩ ∧ Mod [] w0 w ∧ (∀ x ∈ S, w0.heap.size ≤ x) ∧ ∀ a, A = some a → a.block ∉ S
  c0 : A = none → cap = 0
  c1 : K.length ≤ cap
  c2 : cap ≤ 9223372036854775807
theorem Me.m {A : Option Addr} {cap : Nat} {K : List Xi} (h : Me w0 w p A cap K) : Mod [] w0 w := by obtain ⟨S, _, m, _⟩ := h.mb; exact m
theorem Me.b {A : Option Addr} {cap : Nat} {K : List Xi} (h : Me w0 w p A cap K) : Mb w0 w p ⟨[], []⟩ := by obtain ⟨S, h1, m, h2, _⟩ := h.mb; exact ⟨S, h1, ok_new, m, h2⟩
theorem Me.far {w' : World} {A : Option Addr} {cap : Nat} {K : List Xi} (h : Me w0 w p A cap K) (m : Mod [] w w') : Me w0 w' p A cap K := by
  obtain ⟨S, h1, h2, h3, h4⟩ := h.mb
  exact ⟨h.ins.far m, ⟨S, h1.far m, h2.trans m, h3, h4⟩, h.c0, h.c1, h.c2⟩
theorem mb_end {L : List Xi} (h : Mb w0 w p ⟨L, []⟩) : Calls Try.prog 19 #[Pt p] w fun e w' => ∃ A cap, e = .returned (.tuple #[defV A (L ++ [(⟨15, 0, 0⟩ : Xi)]).length cap, .int .i64 0]) ∧ Me w0 w' p A cap (L ++ [⟨15, 0, 0⟩]) := by
  obtain ⟨S, h1, h2, h3, h4⟩ := h
  refine (end_calls h1 h2).mono ?_
  rintro e w' ⟨A, cap, S', rfl, h5, h6, h7, h8, h9, h10, h11⟩
  obtain ⟨g1, g2⟩ := h7.since h3 h4
  exact ⟨A, cap, rfl, h5, ⟨S', h6, g1, g2, fun a ha => (h8 a ha).1⟩, h9, h10, h11⟩
/-- Two builders side by side. -/
def Tb (w0 w : World) (p : Nat) (B : Bd) (q : Nat) (C : Bd) : Prop := ∃ S T, Bl w p S B ∧ OkB B ∧ Bl w q T C ∧ OkB C ∧ Mod [] w0 w ∧ (∀ x ∈ S, w0.heap.size ≤ x ∧ x ∉ T) ∧ ∀ x ∈ T, w0.heap.size ≤ x
theorem Tb.turn {w0 w w' : World} {p q : Nat} {C B' : Bd} {S S' T : List Nat} (h5 : Bl w' p S' B') (ok : OkB B') (t : Turn S S' w w') (hC : Bl w q T C) (okC : OkB C) (m : Mod [] w0 w) (hS : ∀ x ∈ S, w0.heap.size ≤ x ∧ x ∉ T) (hT : ∀ x ∈ T, w0.heap.size ≤ x) : Tb w0 w' p B' q C := by
  obtain ⟨g1, g2⟩ := t.since m fun x hx => (hS x hx).1
  refine ⟨S', T, h5, ok, hC.mod t.1 fun x hx hs => (hS x hs).2 hx, okC, g1, fun x hx => ⟨g2 x hx, fun ht => ?_⟩, hT⟩
  exact t.apart (U := T) hC.lt (fun y hy hs => (hS y hs).2 hy) x ht hx
theorem tb_do {q : Nat} {C : Bd} (h : Tb w0 w p B q C) (n : Int) : Calls Try.prog 15 #[Pt p, .int .i64 n] w fun e w' => e = .returned (.int .i64 (doB n B).1) ∧ Tb w0 w' p (doB n B).2 q C := by
  obtain ⟨S, T, h1, h2, h3, h4, h5, h6, h7⟩ := h
  refine (do_calls h1 h2 n).mono ?_
  rintro e w' ⟨rfl, S', g1, g2⟩
  exact ⟨rfl, Tb.turn g1 (h2.does n) g2 h3 h4 h5 h6 h7⟩
theorem tb_put {q : Nat} {C : Bd} (h : Tb w0 w p B q C) (x : Xi) (hx : WellX x) : Calls Try.prog 13 #[Pt p, insV x] w fun e w' => e = .returned (.int .i64 (putB x B).1) ∧ Tb w0 w' p (putB x B).2 q C := by
  obtain ⟨S, T, h1, h2, h3, h4, h5, h6, h7⟩ := h
  refine (put_calls h1 h2 x).mono ?_
  rintro e w' ⟨rfl, S', g1, g2⟩
  exact ⟨rfl, Tb.turn g1 (h2.puts hx) g2 h3 h4 h5 h6 h7⟩
theorem tb_end {q : Nat} {C : Bd} {L : List Xi} (h : Tb w0 w p ⟨L, []⟩ q C) : Calls Try.prog 19 #[Pt p] w fun e w' => ∃ A cap, e = .returned (.tuple #[defV A (L ++ [(⟨15, 0, 0⟩ : Xi)]).length cap, .int .i64 0]) ∧ InsAt w' A (L ++ [⟨15, 0, 0⟩]) ∧ Mb w0 w' q C := by
  obtain ⟨S, T, h1, h2, h3, h4, h5, h6, h7⟩ := h
  refine (end_calls h1 h2).mono ?_
  rintro e w' ⟨A, cap, S', rfl, g1, g2, g3, _⟩
  obtain ⟨S2, T2, k1, k2, k3, k4, k5, k6, k7⟩ := Tb.turn g2 ok_new g3 h3 h4 h5 h6 h7
  exact ⟨A, cap, rfl, g1, T2, k3, k4, k5, k7⟩
def exL1 : List Xi := [⟨1, 0, 0⟩, ⟨4, 3, 0⟩, ⟨11, 0, 0⟩, ⟨15, 0, 0⟩]
theorem ex1_text : joinX exL1 = [108, 105, 116, 32, 48, 32, 122, 101, 114, 111, 32, 51, 32, 100, 114, 111, 112, 32, 48, 32, 101, 120, 105, 116, 32, 48] := by decide +kernel
theorem ex_put1 : putB ⟨1, 0, 0⟩ ⟨[], []⟩ = (0, ⟨[⟨1, 0, 0⟩], []⟩) := by kernel_rfl
theorem ex_do1 : doB 1 ⟨[⟨1, 0, 0⟩], []⟩ = (0, ⟨[⟨1, 0, 0⟩, ⟨4, 0, 0⟩], [⟨1, 2, [1]⟩]⟩) := by kernel_rfl
theorem ex_put2 : putB ⟨11, 0, 0⟩ ⟨[⟨1, 0, 0⟩, ⟨4, 0, 0⟩], [⟨1, 2, [1]⟩]⟩ = (0, ⟨[⟨1, 0, 0⟩, ⟨4, 0, 0⟩, ⟨11, 0, 0⟩], [⟨1, 2, [1]⟩]⟩) := by kernel_rfl
theorem ex_do3 : doB 3 ⟨[⟨1, 0, 0⟩, ⟨4, 0, 0⟩, ⟨11, 0, 0⟩], [⟨1, 2, [1]⟩]⟩ = (0, ⟨[⟨1, 0, 0⟩, ⟨4, 3, 0⟩, ⟨11, 0, 0⟩], []⟩) := by kernel_rfl
theorem ex_no3 : doB 3 ⟨[], []⟩ = (-22, ⟨[], []⟩) := by kernel_rfl
set_option maxHeartbeats 4000000 in
theorem shown_calls (w : World) : Calls Try.prog 10 #[] w fun e w' => e = .returned (.bool true) ∧ Mod [] w w' := by
  have H1 := Lib.hid (new_calls w)
  have ht : str (joinX exL1) = (⟨#[108, 105, 116, 32, 48, 32, 122, 101, 114, 111, 32, 51, 32, 100, 114, 111, 112, 32, 48, 32, 101, 120, 105, 116, 32, 48]⟩ : ByteArray) := by rw [ex1_text]; rfl
  have HT := Lib.hid ht
  clear ht
  go_enter Try.func10, Try.ntmps10
  go_wp2_with fail
  refine (H1.out).mono ?_
  rintro e w1 ⟨b, rfl, hb1, hm1, hl1⟩
  have H2 := Lib.hid (new_calls w1)
  have HB1 := Lib.hid (And.intro hb1 (And.intro hm1 hl1))
  clear hb1 hm1 hl1 H1
  go_wp2_with fail
  refine (H2.out).mono ?_
  rintro e w2 ⟨c, rfl, hc1, hm2, hl2⟩
  have hT : Tb w w2 b ⟨[], []⟩ c ⟨[], []⟩ := by
    obtain ⟨hb1, hm1, hl1⟩ := HB1.out
    have hbl := hb1.lt b (by simp)
    refine ⟨[b], [c], hb1.far hm2, ok_new, hc1, ok_new, hm1.trans hm2, fun x hx => ?_, fun x hx => ?_⟩
    · rw [List.mem_singleton.1 hx]; exact ⟨hl1, by simp; omega⟩
    · rw [List.mem_singleton.1 hx]; exact Nat.le_trans hm1.size hl2
  have k := tb_put hT ⟨1, 0, 0⟩ (well_op 1 (by decide))
  rw [ex_put1] at k
  have H3 := Lib.hid k
  clear hT k hc1 hm2 hl2 H2 HB1
  go_wp2_with fail
  refine (H3.out).mono ?_
  rintro e w3 ⟨rfl, hT⟩
  have k := tb_do hT 1
  rw [ex_do1] at k
  have H4 := Lib.hid k
  clear hT k H3
  go_wp2_with fail
  refine (H4.out).mono ?_
  rintro e w4 ⟨rfl, hT⟩
  have k := tb_put hT ⟨11, 0, 0⟩ (well_op 11 (by decide))
  rw [ex_put2] at k
  have H5 := Lib.hid k
  clear hT k H4
  go_wp2_with fail
  refine (H5.out).mono ?_
  rintro e w5 ⟨rfl, hT⟩
  have k := tb_do hT 3
  rw [ex_do3] at k
  have H6 := Lib.hid k
  clear hT k H5
  go_wp2_with fail
  refine (H6.out).mono ?_
  rintro e w6 ⟨rfl, hT⟩
  have H7 := Lib.hid (tb_end hT)
  clear hT H6
  go_wp2_with fail
  refine (H7.out).mono ?_
  rintro e w7 ⟨A, cap, rfl, hi, hc⟩
  have mA := (Mod.refl [] w7).alloc (.cells #[.slice A 4 cap] 41)
  have hd : (w7.alloc (.cells #[.slice A 4 cap] 41)).cell? ⟨w7.heap.size, 0, none⟩ = some (.slice A 4 cap) := by rw [World.cell?_alloc_new]; rfl
  have k := rtexts_calls (cap := cap) (L := exL1) (hi.far mA) (n := 4) rfl (by decide)
  rw [HT.out] at k
  have H8 := Lib.hid k
  have HC := Lib.hid (And.intro hc mA)
  clear hi hc k mA H7
  go_wp2_with fail
  refine (H8.out).mono ?_
  rintro e w8 ⟨rfl, hm8⟩
  have k := mb_do ((HC.out.1.far HC.out.2).far hm8) 3
  rw [ex_no3] at k
  have H9 := Lib.hid k
  clear hm8 k H8 hd
  go_wp2_with fail
  refine (H9.out).mono ?_
  rintro e w9 ⟨rfl, hc9⟩
  have HM := Lib.hid hc9.m
  clear hc9 H9
  go_wp2_with fail
  go_ret
  exact ⟨by simp, HM.out⟩
end Go.Proofs.Ytnclfopdgilgaaa
