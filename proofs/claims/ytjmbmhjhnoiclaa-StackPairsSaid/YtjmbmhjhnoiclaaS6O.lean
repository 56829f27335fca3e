/- Layer 6: two stacks apart; the document's examples. Condition: the blocks are stacks. -/
import Derived.Test.YtjmbmhjhnoiclaaS6N
namespace Go.Proofs.Ytjmbmhjhnoiclaa
open Go.RowKit
set_option linter.unusedVariables false

/-- Two stacks, new since w0: L in block p, M in block q. -/
structure Pr (w0 W : World) (p q : Nat) (L M : List Int) : Prop where
  s : St W p L
  t : St W q M
  ne : p ≠ q
  lp : w0.heap.size ≤ p
  lq : w0.heap.size ≤ q
  m : Mod [] w0 W
theorem Pr.far {w0 W W' : World} {p q : Nat} {L M : List Int} (h : Pr w0 W p q L M) (k : Mod [] W W') : Pr w0 W' p q L M := ⟨h.s.far k, h.t.far k, h.ne, h.lp, h.lq, h.m.far k⟩
theorem Pr.one {w0 W W' : World} {p q : Nat} {L M L' : List Int} (h : Pr w0 W p q L M) (s : St W' p L') (k : Mod [p] W W') : Pr w0 W' p q L' M := ⟨s, h.t.mod k (by simpa [eq_comm] using h.ne), h.ne, h.lp, h.lq, h.m.far1 k h.lp⟩
theorem Pr.two {w0 W W' : World} {p q : Nat} {L M M' : List Int} (h : Pr w0 W p q L M) (s : St W' q M') (k : Mod [q] W W') : Pr w0 W' p q L M' := ⟨h.s.mod k (by simpa using h.ne), s, h.ne, h.lp, h.lq, h.m.far1 k h.lq⟩
theorem Pr.put1 {w0 W : World} {p q : Nat} {L M : List Int} (h : Pr w0 W p q L M) {A : Option Addr} {n : Nat} (cap : Nat) {X : List Int} (hs : Sl W A X) (hn : n = X.length) (hI : ∀ x ∈ X, I64 x) (hm : n ≤ 9223372036854775807) :
    Calls Try.prog 17 #[Pt p, .slice A n cap] W fun e w' => e = .returned (.int .i64 (putL X L).1) ∧ Pr w0 w' p q (putL X L).2 M := (put_calls h.s cap hs hn hI hm).mono fun e w' ⟨he, a, b⟩ => ⟨he, h.one a b⟩
theorem Pr.put2 {w0 W : World} {p q : Nat} {L M : List Int} (h : Pr w0 W p q L M) {A : Option Addr} {n : Nat} (cap : Nat) {X : List Int} (hs : Sl W A X) (hn : n = X.length) (hI : ∀ x ∈ X, I64 x) (hm : n ≤ 9223372036854775807) :
    Calls Try.prog 17 #[Pt q, .slice A n cap] W fun e w' => e = .returned (.int .i64 (putL X M).1) ∧ Pr w0 w' p q L (putL X M).2 := (put_calls h.t cap hs hn hI hm).mono fun e w' ⟨he, a, b⟩ => ⟨he, h.two a b⟩
theorem Pr.row1 {w0 W : World} {p q : Nat} {L M : List Int} (h : Pr w0 W p q L M) (X : List Int) (hI : ∀ x ∈ X, I64 x) (hm : X.length ≤ 9223372036854775807) (t : TypeId) :
    Calls Try.prog 17 #[Pt p, .slice (some ⟨W.heap.size, 0, none⟩) X.length X.length] (W.alloc (.cells (cellsI X).toArray t)) fun e w' => e = .returned (.int .i64 (putL X L).1) ∧ Pr w0 w' p q (putL X L).2 M :=
  (h.far ((Mod.refl [] W).alloc _)).put1 X.length (sl_row W X t) rfl hI hm
theorem Pr.row2 {w0 W : World} {p q : Nat} {L M : List Int} (h : Pr w0 W p q L M) (X : List Int) (hI : ∀ x ∈ X, I64 x) (hm : X.length ≤ 9223372036854775807) (t : TypeId) :
    Calls Try.prog 17 #[Pt q, .slice (some ⟨W.heap.size, 0, none⟩) X.length X.length] (W.alloc (.cells (cellsI X).toArray t)) fun e w' => e = .returned (.int .i64 (putL X M).1) ∧ Pr w0 w' p q L (putL X M).2 :=
  (h.far ((Mod.refl [] W).alloc _)).put2 X.length (sl_row W X t) rfl hI hm
theorem Pr.do1 {w0 W : World} {p q : Nat} {L M : List Int} (h : Pr w0 W p q L M) (op : Int) :
    Calls Try.prog 18 #[Pt p, .int .i64 op] W fun e w' => e = .returned (.int .i64 (doL op L).1) ∧ Pr w0 w' p q (doL op L).2 M := (do_calls h.s op).mono fun e w' ⟨he, a, b⟩ => ⟨he, h.one a b⟩
theorem Pr.do2 {w0 W : World} {p q : Nat} {L M : List Int} (h : Pr w0 W p q L M) (op : Int) :
    Calls Try.prog 18 #[Pt q, .int .i64 op] W fun e w' => e = .returned (.int .i64 (doL op M).1) ∧ Pr w0 w' p q L (doL op M).2 := (do_calls h.t op).mono fun e w' ⟨he, a, b⟩ => ⟨he, h.two a b⟩
theorem Pr.push1 {w0 W : World} {p q : Nat} {L M : List Int} (h : Pr w0 W p q L M) (x : Int) (hx : I64 x) :
    Calls Try.prog 20 #[Pt p, .int .i64 x] W fun e w' => e = .returned (.int .i64 (putL [x] L).1) ∧ Pr w0 w' p q (putL [x] L).2 M := (push_calls h.s x hx).mono fun e w' ⟨he, a, b⟩ => ⟨he, h.one a b⟩
theorem Pr.push2 {w0 W : World} {p q : Nat} {L M : List Int} (h : Pr w0 W p q L M) (x : Int) (hx : I64 x) :
    Calls Try.prog 20 #[Pt q, .int .i64 x] W fun e w' => e = .returned (.int .i64 (putL [x] M).1) ∧ Pr w0 w' p q L (putL [x] M).2 := (push_calls h.t x hx).mono fun e w' ⟨he, a, b⟩ => ⟨he, h.two a b⟩
/-- All cells, in a new row. -/
def RowA (w0 W : World) (p q : Nat) (L M X : List Int) (e : Ending) (w' : World) : Prop := ∃ b c, e = .returned (.slice (some ⟨b, 0, none⟩) X.length c) ∧ Ow w' b X c ∧ W.heap.size ≤ b ∧ Mod [] W w' ∧ Pr w0 w' p q L M
theorem Pr.all1 {w0 W : World} {p q : Nat} {L M : List Int} (h : Pr w0 W p q L M) : Calls Try.prog 16 #[Pt p] W (RowA w0 W p q L M L) := (all_calls h.s).mono fun e w' ⟨b, c, he, ho, hl, hm⟩ => ⟨b, c, he, ho, hl, hm, h.far hm⟩
theorem Pr.all2 {w0 W : World} {p q : Nat} {L M : List Int} (h : Pr w0 W p q L M) : Calls Try.prog 16 #[Pt q] W (RowA w0 W p q L M M) := (all_calls h.t).mono fun e w' ⟨b, c, he, ho, hl, hm⟩ => ⟨b, c, he, ho, hl, hm, h.far hm⟩
theorem fresh2 {w w1 w2 : World} {p q : Nat} (h1 : St w1 p []) (m1 : Mod [] w w1) (l1 : w.heap.size ≤ p) (h2 : St w2 q []) (m2 : Mod [] w1 w2) (l2 : w1.heap.size ≤ q) : Pr w w2 p q [] [] :=
  ⟨h1.far m2, h2, Nat.ne_of_lt (Nat.lt_of_lt_of_le h1.lp l2), l1, Nat.le_trans m1.size l2, m1.far m2⟩
theorem same_row {W : World} {b c : Nat} {X : List Int} (ho : Ow W b X c) {B : Option Addr} {m d : Nat} {Y : List Int} (ht : Sl W B Y) (hm : m = Y.length) (hb : X.length ≤ 9223372036854775807) (hb2 : Y.length ≤ 9223372036854775807) :
    Calls Try.prog 15 #[.slice (some ⟨b, 0, none⟩) X.length c, .slice B m d] W (SameR X Y W) := same_calls ho.sl ht rfl hm hb hb2
set_option maxRecDepth 10000 in
set_option maxHeartbeats 2000000 in
theorem shown_calls (w : World) : Calls Try.prog 10 #[] w fun e w' => e = .returned (.bool true) ∧ Mod [] w w' := by
  go_enter Try.func10, Try.ntmps10
  go_wp2_with fail
  refine (new_calls _).mono ?_
  rintro e w1 ⟨p, rfl, s1, m1, l1⟩
  have H1 := Lib.hid (And.intro s1 (And.intro m1 l1))
  clear s1 m1 l1
  go_wp2_with fail
  refine (new_calls _).mono ?_
  rintro e w2 ⟨q, rfl, s2, m2, l2⟩
  have P2 := Lib.hid (fresh2 H1.out.1 H1.out.2.1 H1.out.2.2 s2 m2 l2)
  clear s2 m2 l2 H1
  go_wp2_with fail
  refine (P2.out.row1 [1, 2, 3] (by simp [I64]) (by simp) _).mono ?_
  rintro e w3 ⟨rfl, h3⟩
  have P3 := Lib.hid (show Pr w w3 p q [1, 2, 3] [] from h3)
  clear h3 P2
  go_wp2_with fail
  refine (P3.out.do1 32).mono ?_
  rintro e w4 ⟨rfl, h4⟩
  have P4 := Lib.hid (show Pr w w4 p q [2, 3, 1] [] from h4)
  have e4 : (doL 32 [1, 2, 3]).1 = 0 := by decide
  rw [e4]
  clear h4 P3 e4
  go_wp2_with fail
  refine (P4.out.row2 [7] (by simp [I64]) (by simp) _).mono ?_
  rintro e w5 ⟨rfl, h5⟩
  have P5 := Lib.hid (show Pr w w5 p q [2, 3, 1] [7] from h5)
  clear h5 P4
  go_wp2_with fail
  refine (P5.out.row2 [1] (by simp [I64]) (by simp) _).mono ?_
  rintro e w6 ⟨rfl, h6⟩
  have P6 := Lib.hid (show Pr w w6 p q [2, 3, 1] [7, 1] from h6)
  clear h6 P5
  go_wp2_with fail
  refine (P6.out.all1).mono ?_
  rintro e w7 ⟨b, c, rfl, ho, hl, hm, h7⟩
  have O7 := Lib.hid (And.intro ho h7)
  clear ho hl hm h7 P6
  go_wp2_with fail
  refine (same_row (O7.out.1.mod ((Mod.refl [] w7).alloc _) (by simp)) (sl_row w7 [2, 3, 1] _) rfl (by simp) (by simp)).mono ?_
  rintro e w8 ⟨rfl, m8⟩
  have P8 := Lib.hid ((O7.out.2.far ((Mod.refl [] w7).alloc _)).far m8)
  clear m8 O7
  go_wp2_with fail
  refine (P8.out.do2 40).mono ?_
  rintro e w9 ⟨rfl, h9⟩
  have P9 := Lib.hid (show Pr w w9 p q [2, 3, 1] [7, 1] from h9)
  have e9 : (doL 40 [7, 1]).1 = -4 := by decide
  rw [e9]
  clear h9 P8 e9
  go_wp2
  go_ret
  exact ⟨rfl, P9.out.m⟩
end Go.Proofs.Ytjmbmhjhnoiclaa
