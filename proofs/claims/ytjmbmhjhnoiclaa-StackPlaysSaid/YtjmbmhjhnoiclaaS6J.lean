/- Layer 6: the document's stack: cells taken; a stack made n cells deep. Condition: block q is such a stack (Rf), apart from block p. -/
import Derived.Test.YtjmbmhjhnoiclaaS6I
namespace Go.Proofs.Ytjmbmhjhnoiclaa
open Go.RowKit
set_option linter.unusedVariables false

theorem rpush_calls {w : World} {p q : Nat} {X : List Int} {A : Option Addr} {cap : Nat} (h : Rf w p q X A cap) (hp : p < w.heap.size) (x : Int) (hx : I64 x) :
    Calls Try.prog 25 #[Pt q, .int .i64 x] w (RTurns p q w (.int .i64 (putL [x] X).1) (putL [x] X).2) := by
  by_cases hb : X.length < 128
  · rw [putL_ok (by simp; omega)]
    exact rpush_ok h hp x hx hb
  · rw [putL_no (by simp; omega)]
    exact (rpush_no h x hb).mono fun e w' ⟨he, hw⟩ => ⟨he, ⟨_, _, hw ▸ h⟩, hw ▸ Mod.refl _ _⟩
theorem rput_calls {w : World} {p q : Nat} {X : List Int} {A : Option Addr} {cap : Nat} (h : Rf w p q X A cap) (hp : p < w.heap.size) {B : Option Addr} {m c : Nat} {Z : List Int} (hs : Sl w B Z) (hm : m = Z.length) (hB0 : B = none → c = 0) (hB : ∀ x, B = some x → x.block < w.heap.size) (hI : ∀ x ∈ Z, I64 x) (hmm : m ≤ 9223372036854775807) :
    Calls Try.prog 28 #[Pt q, .slice B m c] w (RTurns p q w (.int .i64 (putL Z X).1) (putL Z X).2) := by
  by_cases hb : X.length + Z.length ≤ 128
  · rw [putL_ok hb]
    exact rput_ok h hp hs hm hB0 hB hI (by omega)
  · rw [putL_no hb]
    exact (rput_no h B m c hmm (by omega)).mono fun e w' ⟨he, hw⟩ => ⟨he, ⟨_, _, hw ▸ h⟩, hw ▸ Mod.refl _ _⟩
theorem rtake_under {w : World} {p q : Nat} {X : List Int} {A : Option Addr} {cap : Nat} (h : Rf w p q X A cap) (n : Int) (hn : I64 n) (hb : (X.length : Int) < n) :
    Calls Try.prog 27 #[Pt q, .int .i64 n] w fun e w' => e = .returned (.tuple #[.slice none 0 0, .int .i64 (-4)]) ∧ w = w' := by
  have hc := h.c
  obtain ⟨d, hdd⟩ : ∃ d, d = X.length := ⟨_, rfl⟩
  rw [← hdd] at hc hb
  clear h hdd
  go_enter Try.func27, Try.ntmps27
  go_wp2
  go_ret2
  exact ⟨rfl, rfl⟩
/-- What the document's Take leaves. -/
def RTaken (p q : Nat) (w : World) (n : Nat) (X : List Int) (e : Ending) (w' : World) : Prop :=
  ∃ b c, e = .returned (.tuple #[.slice (some ⟨b, 0, none⟩) n c, .int .i64 0]) ∧ Ow w' b (X.drop (X.length - n)) c ∧ w.heap.size ≤ b ∧ (∃ A cap, Rf w' p q (X.take (X.length - n)) A cap) ∧ Mod [q] w w'
set_option maxHeartbeats 1000000 in
set_option maxRecDepth 10000 in
theorem rtake_ok {w : World} {p q : Nat} {X : List Int} {A : Option Addr} {cap : Nat} (h : Rf w p q X A cap) (hp : p < w.heap.size) (n : Nat) (hb : n ≤ X.length) :
    Calls Try.prog 27 #[Pt q, .int .i64 (n : Int)] w (RTaken p q w n X) := by
  have hc := h.c
  have hd128 := h.n
  have hdc := h.m
  have k1 := Wk.start h hp
  have hc1 := k1.r.c
  obtain ⟨d, hd⟩ : ∃ d, d = X.length := ⟨_, rfl⟩
  obtain ⟨l, hl⟩ : ∃ l, l = X.length - n := ⟨_, rfl⟩
  have s1 := k1.r.s.drop l cap hdc
  have hfn := fromA_none (a := l) h.a
  have hfb := fromA_block (a := l) (cap := cap) (P := fun b => b < w.heap.size) k1.la
  have hsl := fun W => cells_from_on W A d cap l (by omega) (by omega)
  have hsl2 := fun W => cells_upto W A d cap l (by omega)
  rw [← hd] at hc hc1 hb hdc hd128
  have hln : (d : Int) - (n : Int) = (l : Int) := by omega
  generalize fromA A l cap = B at s1 hfn hfb hsl
  obtain ⟨m, hm⟩ : ∃ m, m = d - l := ⟨_, rfl⟩
  obtain ⟨c2, hc2⟩ : ∃ c2, c2 = cap - l := ⟨_, rfl⟩
  rw [← hm, ← hc2] at hsl
  rw [← hc2] at hfn
  have hml : m = (X.drop l).length := by simp; omega
  have hmn : m = n := by omega
  have hlX : l ≤ X.length := by omega
  unfold RTaken
  rw [← hl]
  have K1 := Lib.hid k1
  have S1 := Lib.hid s1
  have HM := Lib.hid hml
  have HN := Lib.hid hfn
  have HB := Lib.hid hfb
  have HD := Lib.hid (And.intro hd (And.intro hlX hmn))
  have hlb : l ≤ d := by omega
  clear h k1 s1 hml hfn hfb hd hl hm hmn hc2 hlX
  go_enter Try.func27, Try.ntmps27
  go_wp2_with (refine wpList_app rfl (.tmp 24) (.tmp 30) rfl K1.out.o S1.out rfl HM.out HN.out (by have := HD.out.1; simp; omega) rfl rfl ?_)
  intro b2 c2 W2 o2 m2 l2
  have k2 := K1.out.app o2 m2 l2
  have hc3 := k2.r.c
  have hf3 := k2.r.f
  rw [← HD.out.1] at hc3
  have K2 := Lib.hid k2
  clear K1 o2 m2 l2 k2 S1
  go_wp2
  go_ret2
  have hqb : q ≠ b2 := by have := K2.out.l; have := K2.out.lq; omega
  have kk := (Mod.refl [q] W2).one (p := q) (by simp) 0 (.slice A l cap)
  refine ⟨b2, c2, by rw [← HD.out.2.2]; rfl, K2.out.o.mod kk (by simpa [eq_comm] using hqb), K2.out.l, ⟨_, _, K2.out.r.upto l HD.out.2.1⟩, ?_⟩
  exact (K2.out.m.up (by simp)).one (by simp) 0 _
end Go.Proofs.Ytjmbmhjhnoiclaa
